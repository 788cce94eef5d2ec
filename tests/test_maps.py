import unittest

from samples import LARGE, SMALL, RaisesTest, cyclic_table
from stepsvanish.errors import (
    InvalidElement,
    InvalidIndex,
    InvalidValue,
    InvalidVector,
    Mismatch,
)
from stepsvanish.groups import Group
from stepsvanish.maps import GroupMap
from stepsvanish.targets import Target

TARGETS = ([], [2], [5], [2, 4], [3, 2, 2])
BIG = 10**40 + 9


def numbers_for(order, salt):
    return [(x * x * 7 + 3 * x * salt + salt) for x in range(order)]


def sample(table, moduli, salt):
    group, target = Group(table), Target(moduli)
    images = [
        tuple((number + 5 * j * salt + j) % modulus for j, modulus in enumerate(moduli))
        for number in numbers_for(group.order, salt)
    ]
    return GroupMap(group, target, images)


def samples():
    tables = [*SMALL.values(), LARGE["four points"], LARGE["sixteen corners"]]
    return [sample(table, moduli, 2) for table in tables for moduli in TARGETS]


class CreationTest(RaisesTest):
    def test_attributes(self):
        group, target = Group(cyclic_table(3)), Target([2, 4])
        images = [(0, 1), (1, 3), (0, 0)]
        f = GroupMap(group, target, images)
        self.assertTrue(f.group == group)
        self.assertTrue(f.target == target)
        self.assertEqual(f.images, ((0, 1), (1, 3), (0, 0)))
        self.assertIsInstance(f.images, tuple)
        self.assertEqual(images, [(0, 1), (1, 3), (0, 0)])

    def test_the_list_is_copied(self):
        images = [(0,), (1,)]
        f = GroupMap(Group(cyclic_table(2)), Target([2]), images)
        images[0] = (1,)
        images.append((0,))
        self.assertEqual(f.images, ((0,), (1,)))
        self.assertEqual(f(0), (0,))

    def test_a_wrong_number_of_images(self):
        group, target = Group(cyclic_table(3)), Target([2])
        for many in (0, 1, 2, 4, 5):
            self.refused(InvalidValue, GroupMap, group, target, [(0,)] * many)
        self.refused(InvalidValue, GroupMap, group, Target([]), [(), ()])

    def test_an_image_that_is_no_value(self):
        group, target = Group(cyclic_table(3)), Target([2, 3])
        wrong = ((), (0,), (0, 0, 0), (2, 0), (-1, 0), (0, 3), (0, -1), (0, 10**5000))
        for value in wrong:
            for at in range(3):
                images = [(1, 2)] * 3
                images[at] = value
                self.refused(InvalidValue, GroupMap, group, target, images)
        self.refused(InvalidValue, GroupMap, Group([[0]]), Target([]), [(0,)])

    def test_constant(self):
        group, target = Group(SMALL["symmetric"]), Target([2, 3])
        f = GroupMap.constant(group, target, (1, 2))
        self.assertEqual(f.images, ((1, 2),) * 6)
        self.assertTrue(f.group == group and f.target == target)
        self.assertEqual(GroupMap.constant(group, Target([]), ()).images, ((),) * 6)
        for value in ((), (0,), (1, 2, 0), (2, 0), (0, 3), (-1, 0), (0, -1)):
            self.refused(InvalidValue, GroupMap.constant, group, target, value)

    def test_from_parts(self):
        group, target = Group(cyclic_table(3)), Target([2, 4])
        parts = [[-1, 0, BIG], [5, -6, -BIG]]
        f = GroupMap.from_parts(group, target, parts)
        self.assertEqual(f.images, ((1, 1), (0, 2), (BIG % 2, -BIG % 4)))
        self.assertTrue(f.group == group and f.target == target)
        self.assertEqual(parts, [[-1, 0, BIG], [5, -6, -BIG]])
        self.assertEqual(GroupMap.from_parts(group, Target([]), []).images, ((), (), ()))

    def test_from_parts_with_wrong_lengths(self):
        group, target = Group(cyclic_table(3)), Target([2, 4])
        right = [0, 1, 2]
        for parts in (
            [],
            [right],
            [right, right, right],
            [right, [0, 1]],
            [[0, 1], right],
            [right, [0, 1, 2, 3]],
            [[], right],
            [right, []],
        ):
            self.refused(InvalidValue, GroupMap.from_parts, group, target, parts)
        self.refused(InvalidValue, GroupMap.from_parts, group, Target([]), [right])


class CalculationTest(RaisesTest):
    def test_sums_differences_and_multiples(self):
        for f in samples():
            g = sample(f.group.rows, f.target.moduli, 5)
            order, moduli = f.group.order, f.target.moduli
            for result, rule in (
                (f + g, lambda a, b: a + b),
                (f - g, lambda a, b: a - b),
                (-f, lambda a, b: -a),
                (f * 3, lambda a, b: 3 * a),
                (f * 0, lambda a, b: 0),
                (f * -BIG, lambda a, b: -BIG * a),
            ):
                self.assertIs(result.__class__, GroupMap)
                self.assertTrue(result.group == f.group and result.target == f.target)
                for x in range(order):
                    expected = [rule(a, b) % m for a, b, m in zip(f(x), g(x), moduli)]
                    self.assertEqual(result(x), tuple(expected))

    def test_the_operands_stay(self):
        f, g = sample(cyclic_table(4), [4], 1), sample(cyclic_table(4), [4], 3)
        before = (f.images, g.images)
        for _ in (f + g, f - g, -f, f * 2, f.step(1), f.translated(1), f == g):
            self.assertEqual((f.images, g.images), before)

    def test_mismatch(self):
        f = sample(cyclic_table(4), [2], 1)
        for g in (
            sample(SMALL["klein"], [2], 1),
            sample(cyclic_table(4), [4], 1),
            sample(cyclic_table(4), [2, 2], 1),
            sample(cyclic_table(4), [], 1),
            sample(cyclic_table(3), [3], 1),
        ):
            self.refused(Mismatch, lambda: f + g)
            self.refused(Mismatch, lambda: f - g)
            self.refused(Mismatch, lambda: g + f)
            self.refused(Mismatch, lambda: g - f)

    def test_equal_groups_need_not_be_the_same_object(self):
        f, g = sample(cyclic_table(4), [2], 1), sample(cyclic_table(4), [2], 1)
        self.assertTrue((f - g).is_zero())
        self.assertTrue(f == g)
        self.assertFalse(f != g)

    def test_equality(self):
        f = GroupMap.constant(Group(cyclic_table(4)), Target([2]), (0,))
        self.assertFalse(f == GroupMap.constant(f.group, f.target, (1,)))
        self.assertFalse(f == GroupMap.constant(Group(SMALL["klein"]), f.target, (0,)))
        self.assertFalse(f == GroupMap.constant(f.group, Target([3]), (0,)))
        self.assertTrue(f == GroupMap(f.group, f.target, [(0,)] * 4))
        for other in (f.images, list(f.images), f.group, f.target, None, 0):
            self.assertFalse(f == other)
            self.assertTrue(f != other)

    def test_iteration(self):
        for f in samples():
            self.assertEqual(list(f), list(f.images))
            self.assertEqual([value for value in f], [f(x) for x in range(f.group.order)])
        images = list(f)
        images.clear()
        self.assertEqual(tuple(f), f.images)

    def test_calls(self):
        f = GroupMap(Group(cyclic_table(3)), Target([4]), [(2,), (3,), (1,)])
        self.assertEqual([f(0), f(1), f(2)], [(2,), (3,), (1,)])
        for bad in (-1, 3, -3, 10**5000, -(10**5000)):
            self.refused(InvalidElement, f, bad)

    def test_parts(self):
        f = GroupMap(Group(cyclic_table(3)), Target([2, 4]), [(0, 1), (1, 3), (0, 0)])
        self.assertEqual(f.part(0), [0, 1, 0])
        self.assertEqual(f.part(1), [1, 3, 0])
        f.part(0).clear()
        self.assertEqual(f.part(0), [0, 1, 0])
        for bad in (-1, 2, -2, 10**5000):
            self.refused(InvalidIndex, f.part, bad)
        self.refused(InvalidIndex, sample([[0]], [], 1).part, 0)
        for g in samples():
            parts = [g.part(at) for at in range(len(g.target.moduli))]
            self.assertTrue(GroupMap.from_parts(g.group, g.target, parts) == g)

    def test_is_zero(self):
        group, target = Group(cyclic_table(3)), Target([2, 4])
        self.assertIs(GroupMap.constant(group, target, (0, 0)).is_zero(), True)
        self.assertIs(GroupMap.constant(group, Target([]), ()).is_zero(), True)
        for at in range(3):
            for value in ((1, 0), (0, 1), (1, 2)):
                images = [(0, 0)] * 3
                images[at] = value
                self.assertIs(GroupMap(group, target, images).is_zero(), False)


class DifferenceTest(RaisesTest):
    def test_differences_and_translates(self):
        for f in samples():
            group, target = f.group, f.target
            members = range(group.order)
            for a in members:
                step, left_step, translated = f.step(a), f.left_step(a), f.translated(a)
                for x in members:
                    xa, ax = f(group.multiply(x, a)), f(group.multiply(a, x))
                    self.assertEqual(step(x), target.minus(xa, f(x)))
                    self.assertEqual(left_step(x), target.minus(ax, f(x)))
                    self.assertEqual(translated(x), ax)

    def test_the_two_differences_differ(self):
        # The image of one element alone is 1, so both sides can be told apart.
        group = Group(SMALL["symmetric"])
        f = GroupMap.from_parts(group, Target([2]), [[0, 1, 0, 0, 0, 0]])
        a = 2
        self.assertNotEqual(group.multiply(1, a), group.multiply(a, 1))
        self.assertFalse(f.step(a) == f.left_step(a))
        self.assertTrue(f.left_step(a) == f.translated(a) - f)

    def test_known_differences(self):
        group, target = Group(cyclic_table(4)), Target([4])
        f = GroupMap.from_parts(group, target, [[0, 1, 0, 3]])
        self.assertEqual(f.step(1).part(0), [1, 3, 3, 1])
        self.assertEqual(f.translated(1).part(0), [1, 0, 3, 0])
        self.assertTrue(f.step(0).is_zero())
        self.assertTrue(f.left_step(0).is_zero())
        self.assertTrue(f.translated(0) == f)

    def test_wrong_members(self):
        for f in (sample([[0]], [2], 1), sample(SMALL["symmetric"], [2, 4], 1)):
            for bad in (-1, f.group.order, f.group.order + 5, 10**5000, -(10**5000)):
                self.refused(InvalidElement, f.step, bad)
                self.refused(InvalidElement, f.left_step, bad)
                self.refused(InvalidElement, f.translated, bad)
                self.refused(InvalidElement, f, bad)

    def test_evaluate(self):
        for f in samples():
            order, moduli = f.group.order, f.target.moduli
            for coefficients in (
                [0] * order,
                [1] * order,
                [x - 3 for x in range(order)],
                [(-1) ** x * (BIG + x) for x in range(order)],
            ):
                kept = list(coefficients)
                expected = tuple(
                    sum(q * value[j] for q, value in zip(coefficients, f)) % modulus
                    for j, modulus in enumerate(moduli)
                )
                self.assertEqual(f.evaluate(coefficients), expected)
                self.assertEqual(coefficients, kept)

    def test_evaluate_at_one_place(self):
        f = sample(SMALL["quaternion"], [2, 4], 3)
        for x in range(8):
            coefficients = [0] * 8
            coefficients[x] = 1
            self.assertEqual(f.evaluate(coefficients), f(x))

    def test_evaluate_with_a_wrong_length(self):
        f = sample(cyclic_table(3), [4], 1)
        for coefficients in ([], [1], [1, 1], [1, 1, 1, 1], [0] * 6):
            self.refused(InvalidVector, f.evaluate, coefficients)


if __name__ == "__main__":
    unittest.main()
