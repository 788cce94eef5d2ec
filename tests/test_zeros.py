import unittest
from itertools import product

from samples import (
    HUGE,
    LARGE,
    NO_PRIMES,
    PRIME_POWERS,
    SMALL,
    RaisesTest,
    case_objects,
    listed_images,
    numbered_map,
)
from stepsvanish.building import cyclic
from stepsvanish.degrees import degree
from stepsvanish.errors import InvalidModulus, Mismatch, NotPrimePower
from stepsvanish.groups import Group
from stepsvanish.growth import greatest_degree
from stepsvanish.listing import map_at, number_of_maps
from stepsvanish.maps import GroupMap
from stepsvanish.powers import power_chain
from stepsvanish.targets import Target
from stepsvanish.totals import total_bound
from stepsvanish.zeros import common_zeros, promised_exponent, solution_counts, value_degree

# Moduli of targets whose orders are powers of a prime number, with this number.
TARGETS = [
    (2, ()),
    (31, ()),
    (999983, ()),
    (2, (2,)),
    (3, (3,)),
    (2, (4,)),
    (2, (2, 2)),
    (2, (8,)),
    (2, (2, 4)),
    (2, (4, 2)),
    (2, (2, 2, 2, 2, 2)),
    (2, (4, 8)),
    (2, (16, 2)),
    (2, (32,)),
    (3, (9,)),
    (3, (3, 3)),
    (3, (3, 9)),
    (3, (27,)),
    (5, (5,)),
    (5, (25,)),
    (5, (5, 5)),
    (7, (7,)),
    (31, (31,)),
]

OTHER_TARGETS = [(3, (2,)), (2, (3,)), (2, (6,)), (3, (2, 3)), (2, (4, 7)), (5, (8,)), (999983, (2,))]


def map_lists(table):
    yield []
    for moduli in ((), (2,), (4, 6)):
        yield [numbered_map(table, moduli, 1)]
    yield [numbered_map(table, (2,), 1), numbered_map(table, (2,), 2)]
    yield [numbered_map(table, (2, 2), 1), numbered_map(table, (), 1), numbered_map(table, (3,), 2)]
    yield [GroupMap.constant(Group(table), Target([5]), (0,)), numbered_map(table, (2,), 4)]
    yield [GroupMap.constant(Group(table), Target([5]), (3,)), numbered_map(table, (2,), 4)]


class CommonZerosTest(RaisesTest):
    def test_lists_of_maps(self):
        for table in (*SMALL.values(), *LARGE.values()):
            group = Group(table)
            for maps in map_lists(table):
                kept = list(maps)
                expected = [
                    x for x in range(group.order) if all(f(x) == f.target.zero for f in maps)
                ]
                found = common_zeros(group, maps)
                self.assertIsInstance(found, list)
                self.assertEqual(found, expected)
                self.assertEqual(len(maps), len(kept))
                for f, g in zip(maps, kept):
                    self.assertIs(f, g)

    def test_no_maps(self):
        for order in (1, 6, 32):
            self.assertEqual(common_zeros(cyclic(order), []), list(range(order)))

    def test_known_zeros(self):
        group = cyclic(6)
        f = GroupMap.from_parts(group, Target([2]), [[0, 1, 0, 1, 0, 1]])
        g = GroupMap.from_parts(group, Target([3]), [[0, 1, 2, 0, 1, 2]])
        self.assertEqual(common_zeros(group, [f]), [0, 2, 4])
        self.assertEqual(common_zeros(group, [f, g]), [0])
        self.assertEqual(common_zeros(group, [f, GroupMap.constant(group, Target([2]), (1,))]), [])

    def test_mismatch_at_any_place(self):
        group = Group(SMALL["four"])
        right = numbered_map(SMALL["four"], (2,), 1)
        for wrong in (numbered_map(SMALL["klein"], (2,), 1), numbered_map(SMALL["two"], (), 1)):
            for maps in ([wrong], [wrong, right], [right, wrong], [right, right, wrong, right]):
                self.refused(Mismatch, common_zeros, group, maps)
                self.refused(Mismatch, solution_counts, group, maps)


class SolutionCountsTest(RaisesTest):
    def test_lists_of_maps(self):
        for table in (*SMALL.values(), *LARGE.values()):
            group = Group(table)
            for maps in map_lists(table):
                images = [tuple(f(x) for f in maps) for x in range(group.order)]
                expected = {key: images.count(key) for key in sorted(set(images))}
                found = solution_counts(group, maps)
                self.assertIs(found.__class__, dict)
                self.assertEqual(list(found.items()), list(expected.items()))
                self.assertEqual(sum(found.values()), group.order)
                zeros = tuple(f.target.zero for f in maps)
                self.assertEqual(found.get(zeros, 0), len(common_zeros(group, maps)))

    def test_known_counts(self):
        self.assertEqual(solution_counts(cyclic(6), []), {(): 6})
        f = GroupMap(cyclic(3), Target([2, 2]), [(1, 0), (0, 1), (1, 0)])
        self.assertEqual(list(solution_counts(f.group, [f])), [((0, 1),), ((1, 0),)])
        g = GroupMap.constant(cyclic(3), Target([]), ())
        self.assertEqual(solution_counts(f.group, [g, f]), {((), (0, 1)): 1, ((), (1, 0)): 2})

    def test_the_dict_is_new(self):
        solution_counts(cyclic(2), []).clear()
        self.assertEqual(solution_counts(cyclic(2), []), {(): 2})


class ValueDegreeTest(RaisesTest):
    def test_formula(self):
        for prime, moduli in TARGETS:
            for exponent in (1, 2, 3, 7, 64, HUGE):
                expected = 0
                if moduli:
                    expected = sum(m - 1 for m in moduli)
                    expected += (exponent - 1) * (max(moduli) - max(moduli) // prime)
                self.assertEqual(value_degree(Target(list(moduli)), prime, exponent), expected)

    def test_greatest_degrees(self):
        for prime, moduli in TARGETS:
            group = Target(list(moduli)).as_group()
            for exponent in range(1, 6):
                modulus = prime**exponent
                if group.order > 9 and exponent > 2:
                    continue
                expected = len(power_chain(group, modulus)) - 2
                if modulus <= 32:
                    self.assertEqual(greatest_degree(group, Target([modulus])), expected)
                self.assertEqual(value_degree(Target(list(moduli)), prime, exponent), expected)

    def test_errors(self):
        for exponent in (1, 2, HUGE):
            for prime, moduli in OTHER_TARGETS:
                self.refused(NotPrimePower, value_degree, Target(list(moduli)), prime, exponent)
            for prime in NO_PRIMES:
                for moduli in ((), (2,), (4,), (6,), (9, 3)):
                    self.refused(InvalidModulus, value_degree, Target(list(moduli)), prime, exponent)


def defined_exponent(total_bounds, prime, conditions):
    """The promised exponent by point 102 word for word."""
    best = 0
    for b, found in total_bounds.items():
        demand = sum(max(bound, 0) * value_degree(target, prime, b) for bound, target in conditions)
        if found is None or found >= demand:
            best = b
    return best


def condition_lists(prime):
    targets = [Target(list(moduli)) for p, moduli in TARGETS if p == prime] + [Target([])]
    yield []
    for target in targets:
        for bound in (-1, 0, 1, 2, 3, 10, HUGE):
            yield [(bound, target)]
    for first, second in product(targets[:4], repeat=2):
        yield [(1, first), (1, second)]
        yield [(-1, first), (2, second), (0, first)]
    yield [(1, targets[0])] * 5
    yield [(1, targets[-2])] * 2


class PromisedExponentTest(RaisesTest):
    def test_against_the_definition(self):
        tables = [SMALL[name] for name in SMALL] + [LARGE["cyclic"], LARGE["quaternions"]]
        for table in tables:
            group = Group(table)
            for prime in (2, 3, 5):
                total_bounds = {b: total_bound(group, prime**b) for b in range(1, 8)}
                for conditions in list(condition_lists(prime)):
                    kept = list(conditions)
                    expected = defined_exponent(total_bounds, prime, conditions)
                    self.assertEqual(promised_exponent(group, prime, conditions), expected)
                    self.assertEqual(conditions, kept)
                    self.assertEqual(group.order % prime**expected, 0)

    def test_without_conditions(self):
        for table in (*SMALL.values(), *LARGE.values()):
            group = Group(table)
            for prime in (2, 3, 31, 37, 999983):
                expected = 0
                while group.order % prime ** (expected + 1) == 0:
                    expected += 1
                for conditions in ([], [(-1, Target([]))], [(HUGE, Target([]))]):
                    self.assertEqual(promised_exponent(group, prime, conditions), expected)

    def test_bounds_that_ask_nothing(self):
        group = cyclic(32)
        for bound in (-1, 0):
            self.assertEqual(promised_exponent(group, 2, [(bound, Target([32]))] * 9), 5)

    def test_no_total_bound(self):
        group = Group(SMALL["symmetric"])
        self.assertIsNone(total_bound(group, 3))
        for bound in (-1, 0, 1, HUGE):
            self.assertEqual(promised_exponent(group, 3, [(bound, Target([9, 3]))]), 1)
            self.assertEqual(promised_exponent(group, 2, [(bound, Target([2]))]), int(bound < 1))

    def test_known_exponents(self):
        twos = Group(LARGE["many twos"])
        found = [promised_exponent(twos, 2, [(d, Target([2]))]) for d in range(-1, 8)]
        self.assertEqual(found, [5, 5, 4, 2, 1, 1, 0, 0, 0])
        self.assertEqual(promised_exponent(cyclic(4), 2, [(1, Target([2]))]), 1)
        self.assertEqual(promised_exponent(cyclic(1), 2, [(1, Target([2]))]), 0)

    def test_errors(self):
        group = cyclic(4)
        right = (1, Target([4]))
        for prime, moduli in OTHER_TARGETS:
            wrong = (1, Target(list(moduli)))
            self.refused(NotPrimePower, promised_exponent, group, prime, [wrong])
        for wrong in ((1, Target([3])), (-1, Target([6])), (0, Target([2, 3]))):
            for conditions in ([wrong], [wrong, right], [right, wrong], [right, right, wrong, right]):
                self.refused(NotPrimePower, promised_exponent, group, 2, conditions)
                self.refused(InvalidModulus, promised_exponent, group, 4, conditions)
        for prime in NO_PRIMES:
            for conditions in ([], [right]):
                self.refused(InvalidModulus, promised_exponent, group, prime, conditions)

    def test_the_order_of_the_group_may_be_any(self):
        self.assertEqual(promised_exponent(cyclic(6), 2, [(0, Target([2]))]), 1)
        self.assertEqual(promised_exponent(cyclic(6), 5, [(0, Target([5]))]), 0)


class DivisibilityTest(RaisesTest):
    def check(self, prime, maps):
        group = maps[0].group
        conditions = [(degree(f), f.target) for f in maps]
        power = prime ** promised_exponent(group, prime, conditions)
        for count in solution_counts(group, maps).values():
            self.assertEqual(count % power, 0)
        self.assertEqual(len(common_zeros(group, maps)) % power, 0)
        return power

    def test_small_cases(self):
        met = set()
        for name, moduli in (("eight", (2,)), ("klein", (4,)), ("quaternion", (2,)), ("square", (2,))):
            group, target = case_objects(name, moduli)
            found = listed_images(name, moduli, 3)
            maps = [GroupMap(group, target, list(images)) for images in found]
            for f, g in product(maps[::5], maps[::11]):
                met.add(self.check(2, [f]))
                met.add(self.check(2, [f, g]))
        self.assertTrue({1, 2, 4, 8} <= met)

    def test_large_groups(self):
        for prime, table in PRIME_POWERS[-8:]:
            group, target = Group(table), Target([prime])
            for bound in (1, 2):
                number = number_of_maps(group, target, bound)
                maps = [
                    map_at(group, target, bound, (number * k // 9 + 17 * k) % number)
                    for k in range(9)
                ]
                for f, g in zip(maps, maps[1:]):
                    self.check(prime, [f])
                    self.check(prime, [f, g])


if __name__ == "__main__":
    unittest.main()
