import unittest
from itertools import product
from math import lcm

from samples import RaisesTest
from stepsvanish.errors import (
    InvalidIndex,
    InvalidTarget,
    InvalidValue,
    LimitExceeded,
)
from stepsvanish.groups import Group
from stepsvanish.targets import Target

LISTS = [
    [],
    [2],
    [3],
    [32],
    [31],
    [2, 2],
    [2, 3],
    [3, 2],
    [4, 6],
    [2, 16],
    [16, 2],
    [3, 9],
    [2, 3, 4],
    [2, 2, 2, 2, 2],
]


class TargetTest(RaisesTest):
    def test_attributes(self):
        for moduli in LISTS:
            target = Target(moduli)
            order = 1
            for modulus in moduli:
                order *= modulus
            self.assertEqual(target.moduli, tuple(moduli))
            self.assertIsInstance(target.moduli, tuple)
            self.assertEqual(target.order, order)
            self.assertEqual(target.exponent, lcm(*moduli))
            self.assertEqual(target.zero, (0,) * len(moduli))

    def test_without_moduli(self):
        target = Target([])
        self.assertEqual((target.moduli, target.order, target.exponent), ((), 1, 1))
        self.assertEqual(target.zero, ())
        self.assertEqual(target.all_values(), [()])
        self.assertIs(target.is_value(()), True)
        self.assertIs(target.is_value((0,)), False)
        self.assertEqual(target.position(()), 0)
        self.assertEqual(target.value_at(0), ())
        self.assertEqual(target.plus((), ()), ())
        self.assertEqual(target.minus((), ()), ())
        self.assertEqual(target.times(-7, ()), ())
        self.assertTrue(target.as_group() == Group([[0]]))

    def test_the_list_is_copied_and_not_modified(self):
        moduli = [2, 4]
        target = Target(moduli)
        self.assertEqual(moduli, [2, 4])
        moduli[0] = 5
        moduli.append(7)
        self.assertEqual(target.moduli, (2, 4))
        self.assertEqual(len(target.all_values()), 8)

    def test_a_modulus_below_two(self):
        for worth in (1, 0, -1, -2, -(10**5000)):
            self.refused(InvalidTarget, Target, [worth])
            self.refused(InvalidTarget, Target, [worth, 2, 3])
            self.refused(InvalidTarget, Target, [2, worth, 3])
            self.refused(InvalidTarget, Target, [2, 3, worth])
            # Too large as well; the modulus comes first at any place.
            self.refused(InvalidTarget, Target, [worth, 33])
            self.refused(InvalidTarget, Target, [33, worth])
            self.refused(InvalidTarget, Target, [32, 2, worth])
            self.refused(InvalidTarget, Target, [10**40, worth, 2])

    def test_the_greatest_order(self):
        for moduli in ([32], [2, 16], [2, 2, 2, 2, 2], [4, 8]):
            self.assertEqual(Target(moduli).order, 32)
        for moduli in ([33], [3, 11], [34], [2, 17], [2] * 6, [32, 2], [10**5000], [2] * 300):
            self.refused(LimitExceeded, Target, moduli)

    def test_values(self):
        for moduli in LISTS:
            target = Target(moduli)
            values = list(product(*[range(modulus) for modulus in moduli]))
            self.assertEqual(target.all_values(), values)
            for at, value in enumerate(values):
                self.assertIs(target.is_value(value), True)
                self.assertEqual(target.position(value), at)
                self.assertEqual(target.value_at(at), value)
                self.assertIsInstance(target.value_at(at), tuple)

    def test_no_values(self):
        target = Target([2, 4])
        for value in (
            (),
            (0,),
            (0, 0, 0),
            (2, 0),
            (0, 4),
            (-1, 0),
            (0, -1),
            (10**30, 0),
            (1, -(10**5000)),
        ):
            self.assertIs(target.is_value(value), False)
            with self.assertRaises(InvalidValue):
                target.position(value)

    def test_no_positions(self):
        target = Target([2, 4])
        for position in (-1, 8, 9, -8, 10**5000, -(10**5000)):
            with self.assertRaises(InvalidIndex):
                target.value_at(position)
        with self.assertRaises(InvalidIndex):
            Target([]).value_at(1)

    def test_calculation(self):
        for moduli in LISTS:
            target = Target(moduli)
            values = target.all_values()
            for v in values:
                for w in values[:: 1 + len(values) // 8]:
                    plus = tuple((a + b) % m for a, b, m in zip(v, w, moduli))
                    minus = tuple((a - b) % m for a, b, m in zip(v, w, moduli))
                    self.assertEqual(target.plus(v, w), plus)
                    self.assertEqual(target.minus(v, w), minus)
                for factor in (0, 1, -1, 2, 5, -7, 10**50 + 7, -(10**50) - 3):
                    times = tuple(factor * a % m for a, m in zip(v, moduli))
                    self.assertEqual(target.times(factor, v), times)
                    self.assertTrue(target.is_value(target.times(factor, v)))

    def test_known_calculations(self):
        target = Target([4, 6])
        self.assertEqual(target.plus((3, 5), (2, 2)), (1, 1))
        self.assertEqual(target.minus((0, 1), (1, 5)), (3, 2))
        self.assertEqual(target.times(-1, (1, 2)), (3, 4))
        self.assertEqual(target.position((1, 0)), 6)
        self.assertEqual(target.exponent, 12)

    def test_as_group(self):
        for moduli in LISTS:
            target = Target(moduli)
            group = target.as_group()
            self.assertIs(group.__class__, Group)
            self.assertEqual(group.order, target.order)
            for x in range(group.order):
                for y in range(group.order):
                    total = target.plus(target.value_at(x), target.value_at(y))
                    self.assertEqual(target.value_at(group.multiply(x, y)), total)

    def test_equality(self):
        self.assertTrue(Target([2, 3]) == Target([2, 3]))
        self.assertFalse(Target([2, 3]) != Target([2, 3]))
        self.assertFalse(Target([2, 3]) == Target([3, 2]))
        self.assertFalse(Target([6]) == Target([2, 3]))
        self.assertTrue(Target([]) == Target([]))
        for other in ((2, 3), [2, 3], 6, None, Target([2, 3]).as_group()):
            self.assertFalse(Target([2, 3]) == other)

    def test_returned_lists_are_new(self):
        target = Target([3])
        values = target.all_values()
        values.clear()
        self.assertEqual(target.all_values(), [(0,), (1,), (2,)])


if __name__ == "__main__":
    unittest.main()
