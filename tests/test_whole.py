"""What the document promises over the whole program: points 1 to 3."""

import ast
import copy
import unittest
from itertools import combinations, islice
from pathlib import Path

from samples import SMALL, cyclic_table, numbered_map
from stepsvanish import (
    building,
    composing,
    coordinates,
    degrees,
    diagonal,
    duality,
    errors,
    growth,
    listing,
    numbers,
    pairings,
    partial,
    places,
    polynomials,
    powers,
    questions,
    residuals,
    series,
    subgroups,
    sums,
    totals,
    transport,
    weights,
    worlds,
    zeros,
)
from stepsvanish.desk import Desk
from stepsvanish.groups import Group
from stepsvanish.lattices import Lattice
from stepsvanish.maps import GroupMap
from stepsvanish.pairings import Pairing
from stepsvanish.series import Series
from stepsvanish.sums import FormalSum
from stepsvanish.targets import Target
from stepsvanish.worlds import World

PACKAGE = Path(__file__).resolve().parent.parent / "stepsvanish"

GROUP = Group(SMALL["four"])
SYMMETRIC = Group(SMALL["symmetric"])
TARGET = Target([4])
PAIR = Target([2, 4])
MAP = numbered_map(SMALL["four"], (4,), 1)
OTHER = numbered_map(SMALL["four"], (4,), 2)
TWO = numbered_map(SMALL["four"], (2,), 1)
LATTICE = Lattice([[1, 2, 3, 4]], 4, 6)
PAIRING = Pairing.by_parts(TARGET)
TEXT = "group 2\n0 1\n1 0\ntarget 2 4\nmap f 0,0 1,3"

# Calls with the lists and dicts that they are given.
CALLS = [
    (Group, SMALL["four"]),
    (GROUP.generated, [3, 2]),
    (GROUP.generators,),
    (Target, [2, 4]),
    (PAIR.all_values,),
    (GroupMap, GROUP, TARGET, [(0,), (1,), (3,), (2,)]),
    (GroupMap.from_parts, GROUP, PAIR, [[1, 2, 3, 4], [5, 6, 7, 8]]),
    (MAP.part, 0),
    (MAP.evaluate, [5, -1, 7, 0]),
    (Lattice, [[1, 2, 3], [4, 5, 6]], 3, 12),
    (LATTICE.radices,),
    (LATTICE.remainder, [5, 6, 7, 8]),
    (LATTICE.contains, [5, 6, 7, 8]),
    (LATTICE.joined, [[2, 2, 2, 2]]),
    (LATTICE.reordered, [3, 1, 0, 2]),
    (numbers.factored, 360),
    (powers.shifted, GROUP, [1, 2, 3, 4], 1),
    (powers.power_chain, GROUP, 4),
    (subgroups.is_subgroup, GROUP, [0, 2]),
    (subgroups.normal_closure, SYMMETRIC, [5, 1]),
    (subgroups.left_cosets, SYMMETRIC, [0, 1]),
    (subgroups.commutator_subgroup, SYMMETRIC),
    (subgroups.lower_series, SYMMETRIC),
    (subgroups.center, GROUP),
    (building.quotient, GROUP, [0, 2]),
    (building.subgroup_as_group, GROUP, [0, 2]),
    (building.is_homomorphism, GROUP, GROUP, [0, 2, 0, 2]),
    (FormalSum, GROUP, [1, 2, 3, 4]),
    (sums.difference_product, GROUP, [1, 3, 1]),
    (diagonal.divisors, [[2, 4], [6, 9]]),
    (diagonal.divisor_row, GROUP, 2),
    (degrees.stepped, MAP, [1, 3]),
    (degrees.witness, TWO),
    (degrees.integrated, GROUP, TARGET, [OTHER]),
    (transport.pull_back, MAP, GROUP, [0, 2, 0, 2]),
    (transport.push_forward, MAP, GROUP, [0, 2, 0, 2]),
    (listing.choice_counts, GROUP, PAIR, 1),
    (growth.growth, GROUP, PAIR),
    (residuals.residual, SYMMETRIC, 3),
    (residuals.blocks, SYMMETRIC, TARGET),
    (residuals.split, TWO),
    (residuals.assembled, GROUP, TARGET, [(2, MAP)]),
    (weights.dimension_subgroup, GROUP, 2, 2),
    (weights.dimension_series, GROUP, 2),
    (weights.dimension_ranks, GROUP, 2),
    (weights.weight_counts, GROUP, 2),
    (partial.restricted, MAP, [3, 1]),
    (partial.extension, GROUP, TARGET, 2, [None, (1,), None, (3,)]),
    (partial.refutation, GROUP, TARGET, 0, [None, (1,), None, (3,)]),
    (places.closure, GROUP, TARGET, 1, [1, 0]),
    (places.relations, GROUP, 4, 1, [3, 0, 1]),
    (places.completing_places, GROUP, 2, 2, [3]),
    (places.least_places, GROUP, 2, 2),
    (totals.total_over, MAP, [3, 1]),
    (totals.totals_vanish, GROUP, TARGET, 1, [1, 2, 3, 4]),
    (totals.total_counts, GROUP, PAIR, 1, [1, 2, 3, 4]),
    (totals.moved, MAP, [1, 2, 3, 4]),
    (duality.inner_product, MAP, OTHER),
    (Pairing, TARGET, PAIR, TARGET, [[(2,), (3,)]]),
    (pairings.product, MAP, OTHER, PAIRING),
    (composing.indicator, GROUP, PAIR, [3, 1], (1, 3)),
    (composing.compose, MAP, OTHER),
    (zeros.common_zeros, GROUP, [MAP, TWO]),
    (zeros.solution_counts, GROUP, [MAP, TWO]),
    (zeros.promised_exponent, GROUP, 2, [(1, TARGET), (2, PAIR)]),
    (coordinates.weight_basis, GROUP, 2),
    (coordinates.exponents_of, GROUP, 2, 3),
    (coordinates.element_of, GROUP, 2, [5, -1]),
    (coordinates.coordinate_maps, GROUP, 2),
    (coordinates.basis_sum, GROUP, 2, [1, 1]),
    (polynomials.coefficients_of, TWO),
    (polynomials.from_coefficients, GROUP, 2, {(1, 1): 5, (0, 0): -3}),
    (polynomials.weight_of, GROUP, 2, [5, -1]),
    (Series, 12, [5, 0, 13, 12, 0]),
    (Series.from_values, [0, 1], 4),
    (questions.run, TEXT + "\nshow f\nzeros f"),
]


def plain(value):
    """The value with the objects of the program taken apart."""
    if isinstance(value, (list, tuple)):
        return [value.__class__, *[plain(part) for part in value]]
    if isinstance(value, dict):
        return [(plain(key), plain(part)) for key, part in value.items()]
    if isinstance(value, (Group, Target, GroupMap, Lattice, FormalSum, Pairing, Series)):
        return [value.__class__, plain(vars(value))]
    return value


def spoil(value):
    """Change the lists and dicts that are in the value."""
    if isinstance(value, (list, tuple)):
        for part in value:
            spoil(part)
    if isinstance(value, (list, dict)):
        value.clear()


class WholeTest(unittest.TestCase):
    def test_arguments_stay_and_answers_are_new(self):
        for call, *arguments in CALLS:
            given = [copy.deepcopy(part) if is_container(part) else part for part in arguments]
            expected = plain(call(*given))
            self.assertEqual(plain(given), plain(arguments), call)
            answer = call(*given)
            spoil(answer)
            again = call(*given)
            self.assertEqual(plain(again), expected, call)
            # What is done to an argument later has no effect on the answer.
            for part in given:
                if is_container(part):
                    spoil(part)
            self.assertEqual(plain(again), expected, call)

    def test_objects_of_different_classes_are_never_equal(self):
        series_of_two = Series(2, [1])
        objects = [
            GROUP,
            TARGET,
            MAP,
            LATTICE,
            FormalSum(GROUP, [0, 1, 2, 3]),
            PAIRING,
            series_of_two,
            Desk(GROUP, TARGET, 1),
            World(GROUP, TARGET),
            diagonal.diagonal_form([[1]], modulus=2),
        ]
        for first, second in combinations([*objects, None, 0, (), [], {}], 2):
            if is_container(first) and is_container(second):
                continue
            self.assertFalse(first == second)
            self.assertFalse(second == first)
            self.assertTrue(first != second)

    def test_errors(self):
        names = (
            "InvalidGroup InvalidTarget InvalidElement InvalidValue InvalidVector InvalidModulus "
            "InvalidIndex InvalidPairing InvalidName UnknownName InvalidText Conflict "
            "LimitExceeded Mismatch NotSubgroup NotNormal NotHomomorphism NotPrimePower "
            "DegreeTooHigh NoDegree"
        ).split()
        for name in names:
            self.assertEqual(getattr(errors, name).__bases__, (errors.StepError,))
        self.assertEqual(errors.StepError.__bases__, (ValueError,))

    def test_every_error_that_is_raised_is_one_of_the_program(self):
        known = {name for name in vars(errors) if name[0] != "_"}
        for path in sorted(PACKAGE.glob("*.py")):
            for node in ast.walk(ast.parse(path.read_text(encoding="utf-8"))):
                if isinstance(node, ast.Raise):
                    self.assertIn(node.exc.func.id, known, path)

    def test_no_state_between_calls(self):
        # Two generators of the same arguments run beside each other.
        first = pairings.all_pairings(TARGET, TARGET, TARGET)
        second = listing.maps_up_to(GROUP, TARGET, 1)
        third = listing.maps_up_to(GROUP, TARGET, 1)
        self.assertEqual([p.table for p in islice(first, 2)], [(((0,),),), (((1,),),)])
        self.assertEqual([f.images for f in islice(second, 3)], [f.images for f in islice(third, 3)])

    def test_texts_are_the_same_each_time(self):
        world = worlds.read_world(TEXT)
        self.assertEqual(worlds.write_world(world), worlds.write_world(world))
        self.assertEqual(worlds.write_world(world), TEXT)

    def test_large_objects_of_all_limits(self):
        group, target = Group(cyclic_table(32)), Target([2] * 5)
        f = GroupMap.constant(group, target, (1,) * 5)
        world = World(group, target)
        world.define("f", f)
        self.assertTrue(worlds.read_world(worlds.write_world(world)).map_of("f") == f)
        desk = Desk(group, target, 10**5000)
        desk.tell_all(list(enumerate(f)))
        self.assertEqual(desk.remaining(), 1)


def is_container(value):
    return isinstance(value, (list, dict, tuple))


if __name__ == "__main__":
    unittest.main()
