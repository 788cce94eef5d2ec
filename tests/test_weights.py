import unittest

from samples import (
    HUGE,
    LARGE,
    NO_PRIMES,
    SMALL,
    WRONG,
    RaisesTest,
    closed,
    cyclic_table,
    minus_identity,
    product_table,
)
from stepsvanish.building import cyclic
from stepsvanish.errors import InvalidElement, InvalidModulus
from stepsvanish.groups import Group
from stepsvanish.listing import number_of_maps
from stepsvanish.powers import power_lattice
from stepsvanish.residuals import residual
from stepsvanish.subgroups import is_normal
from stepsvanish.targets import Target
from stepsvanish.weights import (
    dimension_ranks,
    dimension_series,
    dimension_subgroup,
    element_weight,
    weight_counts,
)

PRIMES = (2, 3, 5, 31, 999983)
MORE = {
    "nine twos": product_table(cyclic_table(9), cyclic_table(3)),
    "eight and three": product_table(SMALL["quaternion"], cyclic_table(3)),
    "twenty five": product_table(cyclic_table(5), cyclic_table(5)),
    "thirty one": cyclic_table(31),
}
TABLES = (*SMALL.values(), *LARGE.values(), *MORE.values())


def by_lattice(group, prime, exponent):
    lattice = power_lattice(group, exponent, prime)
    members = range(group.order)
    return [g for g in members if lattice.contains(minus_identity(group.rows, g))]


def by_commutators(group, prime, count):
    """The dimension subgroups for 1 to count, as point 68 finds them."""
    series = [list(range(group.order))]
    for k in range(2, count + 1):
        found = []
        for i in range(1, k):
            for x in series[i - 1]:
                for y in series[k - i - 1]:
                    inverse = group.multiply(group.inverse(x), group.inverse(y))
                    found.append(group.multiply(inverse, group.multiply(x, y)))
        found += [group.power(x, prime) for x in series[-(-k // prime) - 1]]
        series.append(closed(group.rows, found))
    return series


class DimensionTest(RaisesTest):
    def test_against_the_lattices(self):
        for table in TABLES:
            group = Group(table)
            for prime in PRIMES:
                for exponent in (0, 1, 2, 3, 4, 5, 8, 9, 16, 17, HUGE):
                    found = dimension_subgroup(group, prime, exponent)
                    self.assertIsInstance(found, list)
                    self.assertEqual(found, by_lattice(group, prime, exponent))

    def test_against_commutators_and_powers(self):
        for table in (*SMALL.values(), LARGE["quaternions"], LARGE["sixteen corners"]):
            group = Group(table)
            for prime in (2, 3, 5):
                expected = by_commutators(group, prime, 10)
                found = [dimension_subgroup(group, prime, k) for k in range(1, 11)]
                self.assertEqual(found, expected)

    def test_exponents_zero_and_one(self):
        for table in TABLES:
            group = Group(table)
            for prime in PRIMES:
                for exponent in (0, 1):
                    everything = list(range(group.order))
                    self.assertEqual(dimension_subgroup(group, prime, exponent), everything)

    def test_series(self):
        for table in TABLES:
            group = Group(table)
            for prime in PRIMES:
                series = dimension_series(group, prime)
                self.assertIsInstance(series, list)
                last = residual(group, prime)
                self.assertEqual(series.index(last), len(series) - 1)
                for k, members in enumerate(series, start=1):
                    self.assertEqual(members, dimension_subgroup(group, prime, k))
                    self.assertTrue(is_normal(group, members))
                    self.assertLessEqual(set(last), set(members))
                for exponent in (len(series) + 1, 100, HUGE):
                    self.assertEqual(dimension_subgroup(group, prime, exponent), last)

    def test_known_series(self):
        self.assertEqual(
            dimension_series(cyclic(8), 2), [list(range(8)), [0, 2, 4, 6], [0, 4], [0, 4], [0]]
        )
        self.assertEqual(dimension_series(cyclic(8), 3), [list(range(8))])
        self.assertEqual(dimension_series(cyclic(6), 2), [list(range(6)), [0, 2, 4]])
        self.assertEqual(dimension_series(Group([[0]]), 2), [[0]])
        self.assertEqual(len(dimension_series(cyclic(32), 2)), 17)
        self.assertEqual(len(dimension_series(cyclic(27), 3)), 10)

    def test_integers_that_are_no_primes(self):
        for group in (cyclic(1), cyclic(6)):
            for prime in NO_PRIMES:
                self.refused(InvalidModulus, dimension_series, group, prime)
                for exponent in (0, 1, 2, HUGE):
                    self.refused(InvalidModulus, dimension_subgroup, group, prime, exponent)

    def test_the_lists_are_new(self):
        group = cyclic(4)
        dimension_series(group, 2)[0].clear()
        dimension_subgroup(group, 2, 1).clear()
        self.assertEqual(dimension_subgroup(group, 2, 1), [0, 1, 2, 3])


class WeightTest(RaisesTest):
    def test_all_groups(self):
        for table in TABLES:
            group = Group(table)
            for prime in PRIMES:
                series = dimension_series(group, prime)
                for x in range(group.order):
                    inside = [k for k, members in enumerate(series, start=1) if x in members]
                    expected = None if x in series[-1] else inside[-1]
                    self.assertEqual(element_weight(group, prime, x), expected)

    def test_known_weights(self):
        found = [element_weight(cyclic(8), 2, x) for x in range(8)]
        self.assertEqual(found, [None, 1, 2, 1, 4, 1, 2, 1])
        found = [element_weight(cyclic(6), 3, x) for x in range(6)]
        self.assertEqual(found, [None, 1, 1, None, 1, 1])
        self.assertIsNone(element_weight(cyclic(6), 5, 1))

    def test_errors(self):
        for group in (cyclic(1), cyclic(6)):
            for wrong in (*WRONG, group.order):
                for prime in PRIMES:
                    self.refused(InvalidElement, element_weight, group, prime, wrong)
                for prime in NO_PRIMES:
                    self.refused(InvalidModulus, element_weight, group, prime, wrong)
                    self.refused(InvalidModulus, element_weight, group, prime, 0)


class CountsTest(RaisesTest):
    def test_ranks(self):
        for table in TABLES:
            group = Group(table)
            for prime in PRIMES:
                series = dimension_series(group, prime)
                ranks = dimension_ranks(group, prime)
                self.assertIsInstance(ranks, list)
                self.assertEqual(len(ranks), len(series) - 1)
                for rank, larger, smaller in zip(ranks, series, series[1:]):
                    self.assertEqual(len(larger), len(smaller) * prime**rank)
                if ranks:
                    self.assertGreater(ranks[-1], 0)

    def test_weight_counts_and_maps(self):
        for table in TABLES:
            group = Group(table)
            for prime in (2, 3, 5, 31):
                counts = weight_counts(group, prime)
                self.assertEqual(counts, counts[::-1])
                self.assertEqual(sum(counts), group.order // len(residual(group, prime)))
                for d in (-1, 0, 1, 2, 3, len(counts) - 2, len(counts) - 1, len(counts), HUGE):
                    expected = prime ** sum(counts[: max(0, min(d, HUGE) + 1)])
                    self.assertEqual(number_of_maps(group, Target([prime]), max(d, -1)), expected)

    def test_the_example(self):
        self.assertEqual(dimension_ranks(cyclic(8), 2), [1, 1, 0, 1])
        self.assertEqual(weight_counts(cyclic(8), 2), [1] * 8)

    def test_known_counts(self):
        self.assertEqual(dimension_ranks(Group(SMALL["quaternion"]), 2), [2, 1])
        self.assertEqual(weight_counts(Group(SMALL["quaternion"]), 2), [1, 2, 2, 2, 1])
        self.assertEqual(dimension_ranks(Group(LARGE["many twos"]), 2), [5])
        self.assertEqual(weight_counts(Group(LARGE["many twos"]), 2), [1, 5, 10, 10, 5, 1])
        self.assertEqual(dimension_ranks(cyclic(27), 3), [1, 0, 1, 0, 0, 0, 0, 0, 1])
        self.assertEqual(weight_counts(cyclic(27), 3), [1] * 27)
        self.assertEqual(weight_counts(cyclic(31), 31), [1] * 31)

    def test_no_factors(self):
        for group, prime in ((cyclic(1), 2), (cyclic(6), 5), (Group(SMALL["symmetric"]), 3)):
            self.assertEqual(dimension_ranks(group, prime), [])
            self.assertEqual(weight_counts(group, prime), [1])
        self.assertEqual(weight_counts(cyclic(32), 999983), [1])

    def test_integers_that_are_no_primes(self):
        for group in (cyclic(1), cyclic(6)):
            for prime in NO_PRIMES:
                self.refused(InvalidModulus, dimension_ranks, group, prime)
                self.refused(InvalidModulus, weight_counts, group, prime)


if __name__ == "__main__":
    unittest.main()
