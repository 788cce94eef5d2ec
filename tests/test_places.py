import unittest
from itertools import combinations, product

from samples import (
    CASES,
    HUGE,
    LARGE,
    NO_PRIMES,
    SMALL,
    WRONG,
    RaisesTest,
    case_objects,
    listed_images,
)
from stepsvanish.building import cyclic
from stepsvanish.errors import InvalidElement, InvalidModulus
from stepsvanish.groups import Group
from stepsvanish.lattices import Lattice
from stepsvanish.places import (
    closure,
    completing_places,
    determines,
    is_free,
    least_places,
    relations,
)
from stepsvanish.powers import power_lattice
from stepsvanish.targets import Target

BOUNDS = (-1, 0, 1, 2, HUGE)


def choices_of_places(order):
    yield []
    yield list(range(order))
    yield list(range(order))[::-1]
    yield [order - 1]
    for many in (1, 2, 3):
        yield from [list(places)[::-1] for places in list(combinations(range(order), many))[::3]]


def cases():
    for name, moduli in CASES:
        group, target = case_objects(name, moduli)
        for bound in BOUNDS:
            listed = listed_images(name, moduli, bound)
            for places in choices_of_places(group.order):
                yield group, target, bound, places, listed


def determined(listed, order, places):
    """The places at which all maps that agree at the given places agree."""
    groups = {}
    for f in listed:
        groups.setdefault(tuple(f[x] for x in places), []).append(f)
    return [y for y in range(order) if all(len({f[y] for f in fs}) == 1 for fs in groups.values())]


class ClosureTest(RaisesTest):
    def test_small_cases(self):
        for group, target, bound, places, listed in cases():
            kept = list(places)
            found = closure(group, target, bound, places)
            self.assertIsInstance(found, list)
            self.assertEqual(found, determined(listed, group.order, places))
            everything = len(found) == group.order
            self.assertIs(determines(group, target, bound, places), everything)
            self.assertEqual(places, kept)

    def test_large_groups(self):
        for table in LARGE.values():
            group = Group(table)
            everything = list(range(group.order))
            for moduli in ([], [2], [6], [4, 8]):
                target = Target(moduli)
                self.assertEqual(closure(group, target, -1, []), everything)
                self.assertEqual(closure(group, target, 0, [7]), everything)
                self.assertEqual(closure(group, target, HUGE, everything[::-1]), everything)
                self.assertIs(determines(group, target, 0, []), not moduli)
                for bound in (1, 2):
                    for places in ([], [3], [9, 2, 17, 5]):
                        parts = [closure(group, Target([m]), bound, places) for m in moduli]
                        expected = [x for x in everything if all(x in part for part in parts)]
                        self.assertEqual(closure(group, target, bound, places), expected)

    def test_primes_are_enough_for_all(self):
        for name in ("four", "symmetric", "quaternion"):
            group = Group(SMALL[name])
            for places in choices_of_places(group.order):
                for bound in (0, 1, 2):
                    parts = [determines(group, Target([p]), bound, places) for p in (2, 3)]
                    self.assertIs(determines(group, Target([12]), bound, places), all(parts))

    def test_no_moduli(self):
        group, target = cyclic(6), Target([])
        self.assertEqual(closure(group, target, HUGE, []), list(range(6)))
        self.assertIs(determines(group, target, HUGE, []), True)
        self.assertIs(is_free(group, target, -1, [0, 5]), True)

    def test_wrong_places(self):
        for group in (cyclic(1), cyclic(6)):
            for moduli in ([], [4]):
                for wrong in (*WRONG, group.order):
                    for places in ([wrong], [0, wrong], [wrong, 0]):
                        for call in (closure, determines, is_free):
                            self.refused(InvalidElement, call, group, Target(moduli), 1, places)


class FreeTest(unittest.TestCase):
    def test_small_cases(self):
        for group, target, bound, places, listed in cases():
            found = {tuple(f[x] for x in places) for f in listed}
            expected = len(found) == target.order ** len(places)
            self.assertIs(is_free(group, target, bound, places), expected)

    def test_known_places(self):
        group, target = cyclic(4), Target([2])
        self.assertTrue(is_free(group, target, 1, [1, 0]))
        self.assertFalse(is_free(group, target, 1, [2, 0]))
        self.assertFalse(is_free(group, target, 1, [0, 1, 2]))
        self.assertTrue(is_free(group, target, 3, [3, 1, 0, 2]))
        self.assertTrue(is_free(group, target, -1, []))
        self.assertFalse(is_free(group, target, -1, [0]))


class RelationsTest(RaisesTest):
    def check(self, group, modulus, bound, places):
        kept = list(places)
        found = relations(group, modulus, bound, places)
        self.assertEqual(places, kept)
        self.assertEqual(len(found), len(places))
        ascending = sorted(places)
        sequence = ascending + [x for x in range(group.order) if x not in places]
        rows = power_lattice(group, bound + 1, modulus).reordered(sequence).rows
        for at, coefficients in enumerate(found):
            self.assertIsInstance(coefficients, list)
            expected = [0] * group.order
            for place, entry in zip(sequence, rows[at]):
                expected[place] = entry
            self.assertEqual(coefficients, expected)
            for x in range(group.order):
                if x not in ascending[: at + 1]:
                    self.assertEqual(coefficients[x], 0)
        return found

    def test_rows_of_the_reordered_lattice(self):
        for table in (*SMALL.values(), LARGE["quaternions"]):
            group = Group(table)
            for modulus in (1, 2, 6, 8, 10**20):
                for bound in (-1, 0, 1, 2, HUGE):
                    for places in list(choices_of_places(group.order))[:9]:
                        self.check(group, modulus, bound, places)

    def test_vectors_that_are_0_outside_of_the_places(self):
        for name, modulus in (("four", 4), ("klein", 3), ("symmetric", 2)):
            group = Group(SMALL[name])
            for bound in (0, 1, 2):
                lattice = power_lattice(group, bound + 1, modulus)
                for places in choices_of_places(group.order):
                    if len(places) > 4:
                        continue
                    found = self.check(group, modulus, bound, places)
                    inner = [[row[x] for x in sorted(places)] for row in found]
                    if not places:
                        continue
                    small = Lattice(inner, len(places), modulus)
                    for entries in product(range(modulus), repeat=len(places)):
                        vector = [0] * group.order
                        for place, entry in zip(sorted(places), entries):
                            vector[place] = entry
                        inside = lattice.contains(vector)
                        self.assertIs(small.contains(list(entries)), inside)

    def test_known_relations(self):
        group = cyclic(4)
        self.assertEqual(relations(group, 2, 1, []), [])
        self.assertEqual(relations(group, 2, 1, [3, 1]), [[0, 2, 0, 0], [0, 1, 0, 1]])
        self.assertEqual(relations(group, 2, 0, [2, 0]), [[2, 0, 0, 0], [1, 0, 1, 0]])
        self.assertEqual(relations(group, 2, -1, [2]), [[0, 0, 1, 0]])

    def test_errors(self):
        for group in (cyclic(1), cyclic(6)):
            for wrong in (*WRONG, group.order):
                for places in ([wrong], [0, wrong], [wrong, 0]):
                    for modulus in (1, 2, 10**20):
                        self.refused(InvalidElement, relations, group, modulus, 1, places)
                    for modulus in (0, -1, -(10**5000)):
                        self.refused(InvalidModulus, relations, group, modulus, 1, places)
                        self.refused(InvalidModulus, relations, group, modulus, 1, [0])
                        self.refused(InvalidModulus, relations, group, modulus, 1, [])

    def test_the_lists_are_new(self):
        group = cyclic(4)
        relations(group, 2, 1, [1])[0].clear()
        self.assertEqual(relations(group, 2, 1, [1]), [[0, 2, 0, 0]])


class CompletingTest(RaisesTest):
    def shortest(self, group, prime, bound, places):
        """The first of the shortest lists, by going through all of them."""
        target = Target([prime])
        for many in range(group.order + 1):
            for more in combinations(range(group.order), many):
                if determines(group, target, bound, sorted({*places, *more})):
                    return list(more)
        return None

    def test_small_cases(self):
        for name in ("one", "two", "three", "four", "klein", "six", "symmetric", "square"):
            group = Group(SMALL[name])
            for prime in (2, 3, 5, 31):
                for bound in (-1, 0, 1, 2, HUGE):
                    for places in list(choices_of_places(group.order))[::3]:
                        kept = list(places)
                        found = completing_places(group, prime, bound, places)
                        self.assertIsInstance(found, list)
                        self.assertEqual(found, self.shortest(group, prime, bound, places))
                        self.assertEqual(places, kept)

    def test_radices_of_the_joined_lattice(self):
        for table in LARGE.values():
            group = Group(table)
            for prime in (2, 3, 37, 999983):
                for bound in (-1, 0, 1, 3, HUGE):
                    for places in ([], [5], [9, 2, 17]):
                        units = [[int(x == y) for y in range(group.order)] for x in places]
                        lattice = power_lattice(group, bound + 1, prime).joined(units)
                        found = completing_places(group, prime, bound, places)
                        radices = lattice.radices()
                        expected = [x for x, radix in enumerate(radices) if radix == prime]
                        self.assertEqual(found, expected)
                    found = least_places(group, prime, bound)
                    self.assertEqual(found, completing_places(group, prime, bound, []))

    def test_primes_above_32(self):
        group = cyclic(6)
        for prime in (37, 101, 999979, 999983):
            self.assertEqual(least_places(group, prime, -1), [])
            self.assertEqual(least_places(group, prime, 0), [0])
            self.assertEqual(least_places(group, prime, HUGE), [0])
            self.assertEqual(completing_places(group, prime, HUGE, [4]), [])

    def test_known_places(self):
        self.assertEqual(least_places(cyclic(4), 2, 1), [0, 1])
        self.assertEqual(least_places(cyclic(4), 2, 2), [0, 1, 2])
        self.assertEqual(completing_places(cyclic(4), 2, 1, [2]), [1])
        self.assertEqual(completing_places(cyclic(4), 2, 1, [1, 2]), [])
        self.assertEqual(least_places(Group(LARGE["many twos"]), 2, 1), [0, 1, 2, 4, 8, 16])

    def test_errors(self):
        for group in (cyclic(1), cyclic(6)):
            for wrong in (*WRONG, group.order):
                for places in ([wrong], [0, wrong], [wrong, 0]):
                    for prime in (2, 999983):
                        self.refused(InvalidElement, completing_places, group, prime, 1, places)
                    for prime in NO_PRIMES:
                        self.refused(InvalidModulus, completing_places, group, prime, 1, places)
            for prime in NO_PRIMES:
                self.refused(InvalidModulus, completing_places, group, prime, 1, [])
                self.refused(InvalidModulus, least_places, group, prime, 1)


if __name__ == "__main__":
    unittest.main()
