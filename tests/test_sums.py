import unittest

from samples import LARGE, SMALL, WRONG, RaisesTest, cyclic_table, minus_identity, times
from stepsvanish.errors import (
    InvalidElement,
    InvalidModulus,
    InvalidVector,
    Mismatch,
)
from stepsvanish.groups import Group
from stepsvanish.powers import power_chain, power_lattice
from stepsvanish.sums import FormalSum, depth, difference_product

BIG = 10**50 + 3
TABLES = (*SMALL.values(), LARGE["four points"])


def sample(table, salt):
    coefficients = [(x * salt + x * x) % 7 - 3 for x in range(len(table))]
    return FormalSum(Group(table), coefficients)


class FormalSumTest(RaisesTest):
    def test_attributes(self):
        group, coefficients = Group(cyclic_table(3)), [BIG, -BIG, 0]
        a = FormalSum(group, coefficients)
        self.assertTrue(a.group == group)
        self.assertEqual(a.coefficients, (BIG, -BIG, 0))
        self.assertIsInstance(a.coefficients, tuple)
        coefficients[0] = 1
        coefficients.append(2)
        self.assertEqual(a.coefficients, (BIG, -BIG, 0))

    def test_a_wrong_number_of_coefficients(self):
        group = Group(cyclic_table(3))
        for coefficients in ([], [1, 2], [1, 2, 3, 4], [0] * 6):
            self.refused(InvalidVector, FormalSum, group, coefficients)

    def test_single_places(self):
        for table in TABLES:
            group = Group(table)
            for x in range(group.order):
                a = FormalSum.element(group, x)
                self.assertIs(a.__class__, FormalSum)
                self.assertTrue(a.group == group)
                expected = tuple(int(y == x) for y in range(group.order))
                self.assertEqual(a.coefficients, expected)
            for wrong in (*WRONG, group.order):
                self.refused(InvalidElement, FormalSum.element, group, wrong)

    def test_sums_and_multiples(self):
        for table in TABLES:
            a, b = sample(table, 2), sample(table, 3)
            kept = (a.coefficients, b.coefficients)
            pairs = list(zip(a.coefficients, b.coefficients))
            for result, expected in (
                (a + b, [x + y for x, y in pairs]),
                (a - b, [x - y for x, y in pairs]),
                (-a, [-x for x, _ in pairs]),
                (a.scaled(5), [5 * x for x, _ in pairs]),
                (a.scaled(0), [0 for _ in pairs]),
                (a.scaled(-BIG), [-BIG * x for x, _ in pairs]),
            ):
                self.assertIs(result.__class__, FormalSum)
                self.assertTrue(result.group == a.group)
                self.assertEqual(result.coefficients, tuple(expected))
            self.assertEqual((a.coefficients, b.coefficients), kept)

    def test_products(self):
        for table in TABLES:
            a, b = sample(table, 2), sample(table, 3)
            expected = times(table, a.coefficients, b.coefficients)
            self.assertEqual((a * b).coefficients, tuple(expected))
            expected = times(table, b.coefficients, a.coefficients)
            self.assertEqual((b * a).coefficients, tuple(expected))
            self.assertEqual((a * b).augmentation(), a.augmentation() * b.augmentation())
            identity = FormalSum.element(a.group, 0)
            self.assertTrue(a * identity == a and identity * a == a)
            c = sample(table, 5)
            self.assertTrue((a * b) * c == a * (b * c))
            self.assertTrue(a * (b + c) == a * b + a * c)

    def test_the_order_of_the_factors(self):
        group = Group(SMALL["symmetric"])
        a, b = FormalSum.element(group, 1), FormalSum.element(group, 2)
        self.assertFalse(a * b == b * a)
        self.assertTrue(a * b == FormalSum.element(group, group.multiply(1, 2)))
        self.assertTrue(b * a == FormalSum.element(group, group.multiply(2, 1)))

    def test_augmentation(self):
        group = Group(cyclic_table(3))
        self.assertEqual(FormalSum(group, [BIG, -1, 4]).augmentation(), BIG + 3)
        self.assertEqual(FormalSum(group, [0, 0, 0]).augmentation(), 0)
        self.assertEqual(FormalSum(group, [1, -3, 0]).augmentation(), -2)

    def test_equality(self):
        group = Group(cyclic_table(4))
        a = FormalSum(group, [1, 2, 3, 4])
        self.assertTrue(a == FormalSum(Group(cyclic_table(4)), [1, 2, 3, 4]))
        self.assertFalse(a != FormalSum(Group(cyclic_table(4)), [1, 2, 3, 4]))
        self.assertFalse(a == FormalSum(group, [1, 2, 3, 5]))
        self.assertFalse(a == FormalSum(Group(SMALL["klein"]), [1, 2, 3, 4]))
        for other in (a.coefficients, [1, 2, 3, 4], group, 0, None):
            self.assertFalse(a == other)

    def test_mismatch(self):
        a = sample(cyclic_table(4), 2)
        for table in (SMALL["klein"], cyclic_table(3), [[0]]):
            b = sample(table, 2)
            for left, right in ((a, b), (b, a)):
                self.refused(Mismatch, lambda: left + right)
                self.refused(Mismatch, lambda: left - right)
                self.refused(Mismatch, lambda: left * right)


class DifferenceProductTest(RaisesTest):
    def test_products(self):
        for table in TABLES:
            group, last = Group(table), len(table) - 1
            middle = last // 2
            for members in (
                [],
                [0],
                [last],
                [middle, last],
                [last, middle],
                [last, last, last],
                [middle, last, middle, last],
                [last, 0, middle],
            ):
                kept = list(members)
                expected = [1] + [0] * last
                for member in members:
                    expected = times(table, expected, minus_identity(table, member))
                result = difference_product(group, members)
                self.assertIs(result.__class__, FormalSum)
                self.assertTrue(result.group == group)
                self.assertEqual(result.coefficients, tuple(expected))
                self.assertEqual(members, kept)

    def test_known_products(self):
        group = Group(cyclic_table(4))
        self.assertEqual(difference_product(group, []).coefficients, (1, 0, 0, 0))
        self.assertEqual(difference_product(group, [1]).coefficients, (-1, 1, 0, 0))
        self.assertEqual(difference_product(group, [0]).coefficients, (0, 0, 0, 0))
        self.assertEqual(difference_product(group, [1, 1]).coefficients, (1, -2, 1, 0))
        group = Group(SMALL["symmetric"])
        left, right = difference_product(group, [1, 2]), difference_product(group, [2, 1])
        self.assertFalse(left == right)
        self.assertEqual(left.coefficients[group.multiply(1, 2)], 1)
        self.assertEqual(left.coefficients[group.multiply(2, 1)], 0)

    def test_wrong_members(self):
        for table in (SMALL["one"], SMALL["symmetric"]):
            group = Group(table)
            for wrong in (*WRONG, group.order):
                for members in ([wrong], [0, wrong], [wrong, 0], [0, wrong, 0]):
                    self.refused(InvalidElement, difference_product, group, members)


class DepthTest(RaisesTest):
    def test_against_the_lattices(self):
        for table in TABLES:
            group = Group(table)
            last = group.order - 1
            for modulus in (1, 2, 3, 4, 12):
                chain = power_chain(group, modulus)
                for a in (
                    sample(table, 2),
                    FormalSum.element(group, last),
                    difference_product(group, [last]),
                    difference_product(group, [last // 2, last]),
                    difference_product(group, [last] * 4),
                    difference_product(group, [last]).scaled(2),
                    FormalSum(group, [1] * group.order),
                ):
                    inside = [lattice.contains(a.coefficients) for lattice in chain]
                    expected = None if all(inside) else inside.index(False) - 1
                    self.assertEqual(depth(a, modulus), expected)

    def test_known_depths(self):
        group = Group(cyclic_table(4))
        self.assertEqual(depth(FormalSum.element(group, 1), 2), 0)
        self.assertEqual(depth(difference_product(group, [1]), 2), 1)
        self.assertEqual(depth(difference_product(group, [2]), 2), 2)
        self.assertEqual(depth(FormalSum(group, [1, 1, 1, 1]), 2), 3)
        self.assertIsNone(depth(difference_product(group, [1] * 4), 2))
        self.assertEqual(depth(difference_product(group, [1] * 4), 4), 4)
        self.assertIsNone(depth(FormalSum(group, [0, 0, 0, 0]), 10**40))
        self.assertIsNone(depth(difference_product(group, []), 1))
        self.assertIsNone(depth(difference_product(group, [1]), 3))
        self.assertIsNone(depth(FormalSum(group, [3, 0, -6, 9]), 3))
        self.assertEqual(depth(FormalSum(group, [3, 0, -6, 9]), 4), 0)
        self.assertIsNone(depth(difference_product(Group([[0]]), [0]), 5))
        self.assertEqual(depth(FormalSum(Group([[0]]), [5]), 10), 0)
        self.assertIsNone(depth(FormalSum(Group([[0]]), [-5]), 5))

    def test_depths_of_products(self):
        for table in (SMALL["eight"], SMALL["square"], SMALL["symmetric"], SMALL["nine"]):
            group = Group(table)
            places = range(1, group.order, 2)
            for modulus in (2, 3, 4, 6):
                for x in places:
                    for y in places:
                        a, b = difference_product(group, [x]), difference_product(group, [y, x])
                        both = depth(a * b, modulus)
                        depths = (depth(a, modulus), depth(b, modulus))
                        if None in depths:
                            self.assertIsNone(both)
                        elif both is not None:
                            self.assertGreaterEqual(both, sum(depths))
                        members = [x, y, y, x]
                        found = depth(difference_product(group, members), modulus)
                        self.assertTrue(found is None or found >= 4)

    def test_the_depth_is_the_greatest_exponent(self):
        group = Group(LARGE["sixteen corners"])
        for members in ([1], [2], [2, 2], [4], [1, 2, 1]):
            a = difference_product(group, members)
            found = depth(a, 8)
            self.assertTrue(power_lattice(group, found, 8).contains(a.coefficients))
            self.assertFalse(power_lattice(group, found + 1, 8).contains(a.coefficients))

    def test_wrong_moduli(self):
        for table in (SMALL["one"], SMALL["symmetric"]):
            a = sample(table, 2)
            for modulus in (0, -1, -2, -(10**5000)):
                self.refused(InvalidModulus, depth, a, modulus)


if __name__ == "__main__":
    unittest.main()
