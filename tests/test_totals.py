import unittest
from itertools import product

from samples import (
    CASES,
    HUGE,
    LARGE,
    SMALL,
    WRONG,
    RaisesTest,
    case_objects,
    listed_images,
    minus_identity,
    numbered_map,
    times,
)
from stepsvanish.building import cyclic
from stepsvanish.degrees import degree
from stepsvanish.errors import InvalidElement, InvalidModulus, InvalidValue, InvalidVector
from stepsvanish.groups import Group
from stepsvanish.listing import number_of_maps
from stepsvanish.maps import GroupMap
from stepsvanish.powers import power_chain, power_lattice
from stepsvanish.targets import Target
from stepsvanish.totals import (
    moved,
    nonvanishing_map,
    number_with_total,
    total,
    total_bound,
    total_counts,
    total_order,
    total_over,
    totals_vanish,
)

BIG = 10**50
BOUNDS = (-1, 0, 1, 2, HUGE)


def formal_sums(table):
    order = len(table)
    yield [0] * order
    yield [1] * order
    yield [1] + [0] * (order - 1)
    yield minus_identity(table, order - 1)
    yield times(table, minus_identity(table, order - 1), minus_identity(table, order // 2))
    yield [2 * (-1) ** x for x in range(order)]
    yield [BIG * x * x - 3 * x - 12 for x in range(order)]
    yield [6] * order


def value_at(images, moduli, coefficients):
    return tuple(
        sum(q * value[j] for q, value in zip(coefficients, images)) % modulus
        for j, modulus in enumerate(moduli)
    )


def cases():
    for name, moduli in CASES:
        group, target = case_objects(name, moduli)
        for bound in BOUNDS:
            listed = listed_images(name, moduli, bound)
            for coefficients in formal_sums(group.rows):
                values = [value_at(f, moduli, coefficients) for f in listed]
                yield group, target, bound, coefficients, values


class TotalTest(RaisesTest):
    def test_totals(self):
        for table in (*SMALL.values(), *LARGE.values()):
            for moduli in ((), (5,), (4, 6)):
                f = numbered_map(table, moduli, 1)
                expected = value_at(f.images, moduli, [1] * len(table))
                self.assertEqual(total(f), expected)
                self.assertEqual(total_over(f, list(range(len(table)))[::-1]), expected)
                self.assertEqual(total_over(f, []), f.target.zero)
                for places in ([len(table) - 1], [len(table) - 1, 0][: len(table)]):
                    kept = list(places)
                    expected = f.target.zero
                    for place in set(places):
                        expected = f.target.plus(expected, f(place))
                    self.assertEqual(total_over(f, places), expected)
                    self.assertEqual(places, kept)

    def test_known_totals(self):
        f = GroupMap.from_parts(cyclic(4), Target([4, 2]), [[0, 1, 2, 3], [1, 1, 1, 0]])
        self.assertEqual(total(f), (2, 1))
        self.assertEqual(total_over(f, [3, 1]), (0, 1))
        self.assertEqual(total_over(f, [2]), (2, 1))

    def test_wrong_places(self):
        for table in (SMALL["one"], SMALL["symmetric"]):
            for moduli in ((), (4,)):
                f = numbered_map(table, moduli, 1)
                for wrong in (*WRONG, len(table)):
                    for places in ([wrong], [0, wrong], [wrong, 0]):
                        self.refused(InvalidElement, total_over, f, places)


class VanishingTest(RaisesTest):
    def test_small_cases(self):
        for group, target, bound, coefficients, values in cases():
            kept = list(coefficients)
            expected = all(value == target.zero for value in values)
            self.assertIs(totals_vanish(group, target, bound, coefficients), expected)
            f = nonvanishing_map(group, target, bound, coefficients)
            if expected:
                self.assertIsNone(f)
            else:
                self.assertIs(f.__class__, GroupMap)
                self.assertTrue(f.group == group and f.target == target)
                self.assertLessEqual(degree(f), bound)
                self.assertNotEqual(f.evaluate(coefficients), target.zero)
            self.assertEqual(coefficients, kept)

    def test_large_groups(self):
        for table in LARGE.values():
            group = Group(table)
            for moduli in ([2], [4, 8], [3, 10], [31]):
                target = Target(moduli)
                for bound in BOUNDS:
                    lattices = [power_lattice(group, bound + 1, m) for m in moduli]
                    for coefficients in formal_sums(table):
                        expected = all(lattice.contains(coefficients) for lattice in lattices)
                        found = totals_vanish(group, target, bound, coefficients)
                        self.assertIs(found, expected)
                        f = nonvanishing_map(group, target, bound, coefficients)
                        self.assertIs(f is None, expected)
                        if f is not None:
                            self.assertLessEqual(degree(f), bound)
                            self.assertNotEqual(f.evaluate(coefficients), target.zero)

    def test_no_moduli(self):
        target = Target([])
        for table in (*SMALL.values(), *LARGE.values()):
            group = Group(table)
            for bound in BOUNDS:
                for coefficients in formal_sums(table):
                    self.assertIs(totals_vanish(group, target, bound, coefficients), True)
                    self.assertIsNone(nonvanishing_map(group, target, bound, coefficients))

    def test_wrong_lengths(self):
        for group in (cyclic(1), cyclic(4)):
            for moduli in ([], [2], [4, 3]):
                target = Target(moduli)
                for bound in BOUNDS:
                    for coefficients in ([], [0] * (group.order - 1), [0] * (group.order + 1)):
                        arguments = (group, target, bound, coefficients)
                        self.refused(InvalidVector, totals_vanish, *arguments)
                        self.refused(InvalidVector, nonvanishing_map, *arguments)
                        self.refused(InvalidVector, total_counts, *arguments)
                        self.refused(InvalidVector, number_with_total, *arguments, target.zero)
                        self.refused(InvalidVector, number_with_total, *arguments, (9, 9, 9))


class TotalOrderTest(RaisesTest):
    def test_least_multiples(self):
        for table in (*SMALL.values(), LARGE["quaternions"]):
            group = Group(table)
            for modulus in (1, 2, 4, 6, 12, 27):
                for bound in BOUNDS:
                    lattice = power_lattice(group, bound + 1, modulus)
                    for coefficients in formal_sums(table):
                        expected = 1
                        while not lattice.contains([expected * q for q in coefficients]):
                            expected += 1
                        found = total_order(group, modulus, bound, coefficients)
                        self.assertEqual(found, expected)
                        self.assertEqual(modulus % found, 0)

    def test_large_moduli(self):
        group = cyclic(8)
        for modulus in (10**40, 3**50, 2**70 * 9, 10**40 + 1):
            for bound in (-1, 0, 1, 3, HUGE):
                lattice = power_lattice(group, bound + 1, modulus)
                for coefficients in formal_sums(group.rows):
                    found = total_order(group, modulus, bound, coefficients)
                    self.assertEqual(modulus % found, 0)
                    self.assertTrue(lattice.contains([found * q for q in coefficients]))
                    for prime in (2, 3, 5, 73):
                        if found % prime == 0:
                            less = [found // prime * q for q in coefficients]
                            self.assertFalse(lattice.contains(less))
        self.assertEqual(total_order(group, 10**40, 0, [1] + [0] * 7), 10**40)
        self.assertEqual(total_order(group, 10**40, 0, [10**39] + [0] * 7), 10)

    def test_errors(self):
        for group in (cyclic(1), cyclic(4)):
            right = [1] * group.order
            for coefficients in ([], right[1:], right + [1]):
                for modulus in (1, 2, 10**30):
                    self.refused(InvalidVector, total_order, group, modulus, 1, coefficients)
                for modulus in (0, -1, -(10**5000)):
                    self.refused(InvalidModulus, total_order, group, modulus, 1, coefficients)
                    self.refused(InvalidModulus, total_order, group, modulus, 1, right)


class NumbersTest(RaisesTest):
    def test_small_cases(self):
        for group, target, bound, coefficients, values in cases():
            counts = total_counts(group, target, bound, coefficients)
            self.assertIs(counts.__class__, dict)
            expected = {value: values.count(value) for value in sorted(set(values))}
            self.assertEqual(list(counts.items()), list(expected.items()))
            for value in target.all_values():
                found = number_with_total(group, target, bound, coefficients, value)
                self.assertEqual(found, expected.get(value, 0))

    def test_large_groups(self):
        for table in LARGE.values():
            group = Group(table)
            for moduli in ([4], [2, 6]):
                target = Target(moduli)
                for bound in (-1, 1, 3, HUGE):
                    for coefficients in formal_sums(table):
                        counts = total_counts(group, target, bound, coefficients)
                        number = number_of_maps(group, target, bound)
                        self.assertEqual(sum(counts.values()), number)
                        self.assertEqual(len(set(counts.values())), 1)
                        self.assertEqual(list(counts), sorted(counts))
                        orders = [total_order(group, m, bound, coefficients) for m in moduli]
                        occurring = [
                            value
                            for value in target.all_values()
                            if all(v % (m // o) == 0 for v, m, o in zip(value, moduli, orders))
                        ]
                        self.assertEqual(list(counts), occurring)

    def test_no_moduli(self):
        for group in (cyclic(1), Group(SMALL["symmetric"]), Group(LARGE["cyclic"])):
            for bound in BOUNDS:
                for coefficients in formal_sums(group.rows):
                    arguments = (group, Target([]), bound, coefficients)
                    self.assertEqual(total_counts(*arguments), {(): 1})
                    self.assertEqual(number_with_total(*arguments, ()), 1)
                    self.refused(InvalidValue, number_with_total, *arguments, (0,))

    def test_wrong_values(self):
        group, target = cyclic(4), Target([2, 3])
        for value in ((), (0,), (0, 0, 0), (2, 0), (-1, 0), (0, 3), (0, -1), (0, 10**5000)):
            for bound in (-1, 0, HUGE):
                self.refused(InvalidValue, number_with_total, group, target, bound, [1] * 4, value)
                self.refused(InvalidVector, number_with_total, group, target, bound, [1] * 3, value)

    def test_the_dict_is_new(self):
        arguments = (cyclic(4), Target([2]), 1, [1, 0, 0, 0])
        total_counts(*arguments).clear()
        self.assertEqual(total_counts(*arguments), {(0,): 2, (1,): 2})


class TotalBoundTest(RaisesTest):
    def test_small_cases(self):
        for name, moduli in CASES:
            if len(moduli) != 1:
                continue
            group, modulus = Group(SMALL[name]), moduli[0]
            ones = [1] * group.order
            bounds = [
                bound
                for bound in range(-1, 12)
                if all(value_at(f, moduli, ones) == (0,) for f in listed_images(name, moduli, bound))
            ]
            expected = None if bounds[-1] == 11 else bounds[-1]
            self.assertEqual(total_bound(group, modulus), expected)

    def test_against_the_lattices(self):
        for table in (*SMALL.values(), *LARGE.values()):
            group = Group(table)
            for modulus in (1, 2, 3, 4, 5, 6, 8, 12, 16, 32, 64, 31, 10**12):
                if modulus < 100:
                    chain = power_chain(group, modulus)
                else:
                    chain = [power_lattice(group, exponent, modulus) for exponent in range(5)]
                inside = [lattice.contains([1] * group.order) for lattice in chain]
                expected = None if all(inside) else inside.index(False) - 2
                self.assertEqual(total_bound(group, modulus), expected)

    def test_known_bounds(self):
        self.assertEqual(total_bound(cyclic(4), 2), 2)
        self.assertEqual(total_bound(cyclic(4), 4), 0)
        self.assertEqual(total_bound(cyclic(4), 8), -1)
        self.assertEqual(total_bound(cyclic(4), 3), -1)
        self.assertEqual(total_bound(Group(LARGE["many twos"]), 2), 4)
        self.assertEqual(total_bound(Group(LARGE["cyclic"]), 2), 30)
        self.assertIsNone(total_bound(Group(SMALL["symmetric"]), 3))
        self.assertEqual(total_bound(Group(SMALL["symmetric"]), 2), 0)
        for group in (cyclic(1), cyclic(6), Group(LARGE["four points"])):
            self.assertIsNone(total_bound(group, 1))
        self.assertEqual(total_bound(cyclic(1), 2), -1)

    def test_wrong_moduli(self):
        for group in (cyclic(1), cyclic(6)):
            for modulus in (0, -1, -2, -(10**5000)):
                self.refused(InvalidModulus, total_bound, group, modulus)


class MovedTest(RaisesTest):
    def test_images(self):
        for table in (*SMALL.values(), LARGE["four points"]):
            for moduli in ((), (5,), (4, 6)):
                f = numbered_map(table, moduli, 1)
                kept = f.images
                for coefficients in formal_sums(table):
                    given = list(coefficients)
                    result = moved(f, given)
                    self.assertEqual(given, coefficients)
                    self.assertIs(result.__class__, GroupMap)
                    self.assertTrue(result.group == f.group and result.target == f.target)
                    for x, row in enumerate(table):
                        images = [f(place) for place in row]
                        self.assertEqual(result(x), value_at(images, moduli, coefficients))
                self.assertEqual(f.images, kept)

    def test_differences(self):
        for table in SMALL.values():
            f = numbered_map(table, (4, 3), 2)
            for a in range(len(table)):
                self.assertTrue(moved(f, minus_identity(table, a)) == f.step(a))

    def test_two_moves(self):
        for name in ("symmetric", "square", "quaternion", "alternating"):
            table = SMALL[name]
            f = numbered_map(table, (12,), 1)
            for q, s in product(list(formal_sums(table)), repeat=2):
                self.assertTrue(moved(moved(f, s), q) == moved(f, times(table, q, s)))

    def test_degrees(self):
        for name, modulus in (("eight", 2), ("four", 4), ("symmetric", 2), ("quaternion", 2)):
            group, target = Group(SMALL[name]), Target([modulus])
            for f in listed_images(name, (modulus,), HUGE)[::5]:
                f = GroupMap(group, target, list(f))
                d = degree(f)
                for k in range(5):
                    for row in power_lattice(group, k, modulus).rows[::2]:
                        found = degree(moved(f, list(row)))
                        self.assertLessEqual(found, max(-1, d - k))

    def test_wrong_lengths(self):
        for table in (SMALL["one"], SMALL["symmetric"]):
            for moduli in ((), (4,)):
                f = numbered_map(table, moduli, 1)
                for many in (0, len(table) - 1, len(table) + 1, 2 * len(table)):
                    self.refused(InvalidVector, moved, f, [0] * many)


if __name__ == "__main__":
    unittest.main()
