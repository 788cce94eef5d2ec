import unittest
from itertools import product

from samples import (
    CASES,
    HUGE,
    LARGE,
    SMALL,
    WRONG,
    RaisesTest,
    case_objects,
    cyclic_table,
    degrees_of_case,
    listed_images,
    minus_identity,
    numbered_map,
    power_table,
    times,
)
from stepsvanish.degrees import degree, integrated, leading_value, stepped, vanishes, witness
from stepsvanish.errors import DegreeTooHigh, InvalidElement, InvalidVector, Mismatch, NoDegree
from stepsvanish.groups import Group
from stepsvanish.listing import map_at, number_of_maps
from stepsvanish.maps import GroupMap
from stepsvanish.targets import Target

FEW = [case for case in CASES if case not in (("klein", (2, 3)), ("symmetric", (4,)))]


def case_maps(name, moduli, by=1):
    group, target = case_objects(name, moduli)
    for images, expected in list(degrees_of_case(name, moduli).items())[::by]:
        yield GroupMap(group, target, list(images)), expected


def left_degree(f):
    """The degree by left differences, or None."""
    found, seen, count = {f.images: f}, [], 0
    while not all(g.is_zero() for g in found.values()):
        if set(found) in seen:
            return None
        seen.append(set(found))
        steps = [g.left_step(a) for g in found.values() for a in range(f.group.order)]
        found = {g.images: g for g in steps}
        count += 1
    return count - 1


def first_witness(f, bound):
    """The first list of generators by going through all lists, ascending."""
    for members in product(f.group.generators(), repeat=bound):
        rest = f
        for member in members:
            rest = rest.step(member)
        if not rest.is_zero():
            return list(members)
    return None


class DegreeTest(RaisesTest):
    def test_all_maps_of_small_cases(self):
        for name, moduli in CASES:
            for f, expected in case_maps(name, moduli):
                found = degree(f)
                self.assertEqual(found, expected)

    def test_zero_and_constant_maps(self):
        for table in (*SMALL.values(), *LARGE.values()):
            for moduli in ((), (2,), (3,), (5, 2), (32,), (2, 2, 2, 2, 2)):
                group, target = Group(table), Target(list(moduli))
                zero = GroupMap.constant(group, target, target.zero)
                self.assertEqual(degree(zero), -1)
                for value in target.all_values()[1:4]:
                    self.assertEqual(degree(GroupMap.constant(group, target, value)), 0)

    def test_no_degree(self):
        for name, moduli in [("three", (2,)), ("six", (5,)), ("symmetric", (3,))]:
            group, target = case_objects(name, moduli)
            f = GroupMap.from_parts(group, target, [[1] + [0] * (group.order - 1)])
            self.assertIsNone(degree(f))
        # One part without a degree is enough.
        group = Group(cyclic_table(3))
        f = GroupMap.from_parts(group, Target([3, 2]), [[0, 1, 2], [0, 1, 1]])
        self.assertIsNone(degree(f))
        f = GroupMap.from_parts(group, Target([3, 2]), [[0, 1, 2], [1, 1, 1]])
        self.assertEqual(degree(f), 1)

    def test_several_moduli(self):
        group = Group(cyclic_table(4))
        squares, plain = [x * x for x in range(4)], list(range(4))
        for parts, moduli, expected in [
            ([plain, squares], [4, 8], 2),
            ([squares, plain], [8, 4], 2),
            ([plain, [1] * 4], [4, 2], 1),
            ([[0] * 4, [1] * 4], [2, 3], 0),
            ([[0] * 4, [0] * 4], [2, 3], -1),
        ]:
            self.assertEqual(degree(GroupMap.from_parts(group, Target(moduli), parts)), expected)

    def test_left_differences(self):
        for name in ("symmetric", "square", "quaternion"):
            for f, expected in case_maps(name, (2,), 5):
                self.assertEqual(left_degree(f), expected)

    def test_differences_by_the_generators(self):
        for name, moduli in (("quaternion", (2,)), ("four", (4,)), ("klein", (4,))):
            for f, expected in case_maps(name, moduli, 3):
                if expected is not None and expected >= 1:
                    steps = [degree(f.step(a)) for a in f.group.generators()]
                    self.assertEqual(max(steps), expected - 1)

    def test_large_groups(self):
        for name, modulus, expected in [
            ("cyclic", 2, 31),
            ("cyclic", 32, 95),
            ("many twos", 2, 5),
            ("many twos", 32, 9),
        ]:
            order = len(LARGE[name])
            group, target = Group(LARGE[name]), Target([modulus])
            f = GroupMap.from_parts(group, target, [[1] + [0] * (order - 1)])
            self.assertEqual(degree(f), expected)
        group = Group(LARGE["cyclic"])
        f = GroupMap.from_parts(group, Target([32]), [list(range(32))])
        self.assertEqual(degree(f), 1)
        f = GroupMap.from_parts(group, Target([16]), [[x * (x - 1) // 2 for x in range(32)]])
        self.assertEqual(degree(f), 2)
        f = GroupMap.from_parts(group, Target([31]), [list(range(32))])
        self.assertIsNone(degree(f))

    def test_the_image_of_one_place_on_a_noncommutative_group(self):
        group = Group(LARGE["sixteen corners"])
        f = GroupMap.from_parts(group, Target([2]), [[1] + [0] * 31])
        found = degree(f)
        self.assertTrue(vanishes(f, found + 1))
        self.assertFalse(vanishes(f, found))


class VanishesTest(RaisesTest):
    def test_small_cases(self):
        for name, moduli in FEW:
            for f, expected in case_maps(name, moduli, 3):
                for count in (0, 1, 2, 3, 5, 50, HUGE):
                    answer = expected is not None and expected < count
                    self.assertIs(vanishes(f, count), answer)

    def test_zero_differences(self):
        for moduli in ((), (2,), (4, 3)):
            f = numbered_map(SMALL["symmetric"], moduli, 1)
            self.assertIs(vanishes(f, 0), f.is_zero())
            self.assertIs(vanishes(f * 0, 0), True)

    def test_against_differences(self):
        f = numbered_map(SMALL["square"], (4,), 2)
        found = [f]
        for count in range(6):
            self.assertIs(vanishes(f, count), all(g.is_zero() for g in found))
            steps = [g.step(a) for g in found for a in range(8)]
            found = list({g.images: g for g in steps}.values())


class SteppedTest(RaisesTest):
    def test_lists(self):
        for table in (SMALL["one"], SMALL["four"], SMALL["symmetric"], LARGE["quaternions"]):
            for moduli in ((), (4,), (2, 3)):
                f, last = numbered_map(table, moduli, 2), len(table) - 1
                kept = f.images
                for members in ([], [0], [last], [last, last // 2], [last // 2, last], [last] * 5):
                    expected = f
                    for member in members:
                        expected = expected.step(member)
                    given = list(members)
                    result = stepped(f, given)
                    self.assertIs(result.__class__, GroupMap)
                    self.assertTrue(result == expected)
                    self.assertEqual(given, members)
                self.assertEqual(f.images, kept)

    def test_values_at_products_of_formal_sums(self):
        table = SMALL["symmetric"]
        f = numbered_map(table, (5,), 1)
        for members in ([1, 2], [2, 1], [3, 1, 4], [5, 5, 2]):
            result = stepped(f, members)
            for x in range(6):
                coefficients = [int(y == x) for y in range(6)]
                for member in reversed(members):
                    coefficients = times(table, coefficients, minus_identity(table, member))
                self.assertEqual(result(x), f.evaluate(coefficients))

    def test_wrong_members(self):
        for table in (SMALL["one"], SMALL["symmetric"]):
            f = numbered_map(table, (4,), 1)
            for wrong in (*WRONG, len(table)):
                for members in ([wrong], [0, wrong], [wrong, 0], [0, 0, wrong, 0]):
                    self.refused(InvalidElement, stepped, f, members)


class LeadingValueTest(RaisesTest):
    def test_small_cases(self):
        for name, moduli in FEW:
            order = len(SMALL[name])
            for f, expected in case_maps(name, moduli, 7):
                for members in ([], [0], [order - 1], [order - 1, order // 2], [order // 2] * 4):
                    if expected is None or expected > len(members):
                        self.refused(DegreeTooHigh, leading_value, f, members)
                        continue
                    value = leading_value(f, members)
                    images = stepped(f, members).images
                    self.assertEqual(images, (value,) * order)
                    if expected < len(members):
                        self.assertEqual(value, f.target.zero)

    def test_the_example(self):
        group, target = Group(cyclic_table(3)), Target([3])
        f = GroupMap(group, target, [(0,), (1,), (1,)])
        self.assertEqual(degree(f), 2)
        self.assertEqual(leading_value(f, [1, 1]), (2,))
        self.assertEqual(leading_value(f, [1, 1, 1]), (0,))
        self.refused(DegreeTooHigh, leading_value, f, [1])

    def test_products_and_exchanges(self):
        group, target = Group(SMALL["quaternion"]), Target([2])
        for images in listed_images("quaternion", (2,), 2):
            f = GroupMap(group, target, list(images))
            for x, y, z in ((1, 2, 3), (2, 5, 1), (6, 6, 4)):
                both = leading_value(f, [group.multiply(x, y), z])
                alone = target.plus(leading_value(f, [x, z]), leading_value(f, [y, z]))
                self.assertEqual(both, alone)
                ab, ba = group.multiply(x, y), group.multiply(y, x)
                shorter = [group.multiply(group.inverse(ab), ba)]
                more = stepped(f, shorter)
                self.assertEqual(len(set(more.images)), 1)
                value = target.plus(leading_value(f, [y, x]), more(0))
                self.assertEqual(leading_value(f, [x, y]), value)

    def test_the_member_comes_before_the_degree(self):
        group = Group(cyclic_table(3))
        f = GroupMap(group, Target([2]), [(1,), (0,), (0,)])
        self.refused(DegreeTooHigh, leading_value, f, [1, 2])
        for wrong in (*WRONG, 3):
            for members in ([wrong], [1, wrong], [wrong, 1, 2]):
                self.refused(InvalidElement, leading_value, f, members)
                self.refused(InvalidElement, leading_value, f * 0, members)


class WitnessTest(RaisesTest):
    def test_small_cases(self):
        for name, moduli in CASES:
            for f, expected in case_maps(name, moduli, 5):
                if expected is None:
                    self.refused(NoDegree, witness, f)
                elif expected == -1:
                    self.assertIsNone(witness(f))
                else:
                    found = witness(f)
                    self.assertIsInstance(found, list)
                    self.assertEqual(found, first_witness(f, expected))

    def test_the_example(self):
        f = GroupMap(Group(cyclic_table(3)), Target([3]), [(0,), (1,), (1,)])
        self.assertEqual(witness(f), [1, 1])
        self.assertEqual(witness(f.step(1)), [1])
        self.assertEqual(witness(f.step(1).step(1)), [])
        self.assertIsNone(witness(f * 3))

    def test_later_generators(self):
        # The map sees the second generator only, or both in one order.
        group = Group(power_table(cyclic_table(2), 3))
        self.assertEqual(group.generators(), [1, 2, 4])
        for numbers, expected in [
            ([x >> 1 & 1 for x in range(8)], [2]),
            ([x >> 2 & 1 for x in range(8)], [4]),
            ([(x >> 1 & 1) * (x >> 2 & 1) for x in range(8)], [2, 4]),
            ([(x & 1) * (x >> 2 & 1) for x in range(8)], [1, 4]),
        ]:
            f = GroupMap.from_parts(group, Target([2]), [numbers])
            self.assertEqual(witness(f), expected)

    def test_several_parts(self):
        group = Group(power_table(cyclic_table(2), 2))
        parts = [[0, 1, 0, 1], [0, 0, 0, 1]]
        self.assertEqual(witness(GroupMap.from_parts(group, Target([2, 4]), parts)), [1, 1, 2])
        # The chain of the modulus 3 ends long before that of the modulus 4.
        group = Group(cyclic_table(4))
        for moduli, parts in [
            ([4, 3], [[1, 0, 0, 0], [2, 2, 2, 2]]),
            ([3, 4], [[0, 0, 0, 0], [0, 1, 0, 0]]),
        ]:
            f = GroupMap.from_parts(group, Target(moduli), parts)
            self.assertEqual(witness(f), [1] * degree(f))
            self.assertGreater(degree(f), 4)

    def test_large_groups(self):
        for name, modulus in (("cyclic", 32), ("sixteen corners", 8), ("many twos", 32)):
            group = Group(LARGE[name])
            f = GroupMap.from_parts(group, Target([modulus]), [[1] + [0] * 31])
            members = witness(f)
            self.assertEqual(len(members), degree(f))
            self.assertFalse(stepped(f, members).is_zero())
            self.assertNotEqual(leading_value(f, members), (0,))
            for at, member in enumerate(members):
                self.assertIn(member, group.generators())
                rest = stepped(f, members[:at])
                for smaller in group.generators():
                    if smaller < member:
                        self.assertLess(degree(rest.step(smaller)), len(members) - at - 1)

    def test_no_degree(self):
        f = GroupMap(Group(cyclic_table(3)), Target([2]), [(1,), (0,), (0,)])
        self.refused(NoDegree, witness, f)
        self.assertIsNone(witness(numbered_map(SMALL["six"], (), 1)))


class IntegratedTest(RaisesTest):
    def test_all_maps_come_back(self):
        for name, moduli in CASES:
            for f, _ in case_maps(name, moduli, 11):
                shifted = f - GroupMap.constant(f.group, f.target, f(0))
                pieces = [f.step(a) for a in f.group.generators()]
                kept = list(pieces)
                found = integrated(f.group, f.target, pieces)
                self.assertIs(found.__class__, GroupMap)
                self.assertTrue(found == shifted)
                self.assertEqual(len(pieces), len(kept))

    def test_all_pieces_of_small_cases(self):
        for name, moduli in [("three", (3,)), ("four", (2,)), ("klein", (2,)), ("two", (2, 2))]:
            group, target = case_objects(name, moduli)
            everything = [f for f, _ in case_maps(name, moduli)]
            generators = group.generators()
            steps = {
                tuple(f.step(a).images for a in generators): f
                for f in everything
                if f(0) == target.zero
            }
            for pieces in product(everything, repeat=len(generators)):
                found = integrated(group, target, list(pieces))
                expected = steps.get(tuple(g.images for g in pieces))
                if expected is None:
                    self.assertIsNone(found)
                else:
                    self.assertTrue(found == expected)

    def test_none(self):
        group, target = Group(cyclic_table(3)), Target([3])
        self.assertIsNone(integrated(group, target, [GroupMap(group, target, [(1,), (1,), (0,)])]))
        found = integrated(group, target, [GroupMap(group, target, [(1,), (1,), (1,)])])
        self.assertEqual(found.images, ((0,), (1,), (2,)))
        found = integrated(group, target, [GroupMap(group, target, [(1,), (0,), (2,)])])
        self.assertEqual(found.images, ((0,), (1,), (1,)))

    def test_without_generators(self):
        group, target = Group([[0]]), Target([4])
        self.assertEqual(integrated(group, target, []).images, ((0,),))
        f = GroupMap(group, target, [(0,)])
        self.refused(InvalidVector, integrated, group, target, [f])

    def test_errors(self):
        group, target = Group(SMALL["klein"]), Target([2])
        right = GroupMap.constant(group, target, (0,))
        other_group = GroupMap.constant(Group(cyclic_table(4)), target, (0,))
        other_target = GroupMap.constant(group, Target([4]), (0,))
        self.assertTrue(integrated(group, target, [right, right]).is_zero())
        for wrong in (other_group, other_target):
            for pieces in ([wrong, right], [right, wrong], [wrong, wrong]):
                self.refused(Mismatch, integrated, group, target, pieces)
            for pieces in ([], [wrong], [right], [right] * 3, [wrong] * 3):
                self.refused(InvalidVector, integrated, group, target, pieces)
        # A mismatch comes before the search, which would find no map.
        odd = GroupMap(group, target, [(1,), (0,), (0,), (0,)])
        self.assertIsNone(integrated(group, target, [odd, right]))
        self.refused(Mismatch, integrated, group, target, [odd, other_target])

    def test_large_group(self):
        group, target = Group(LARGE["quaternions"]), Target([4, 2])
        number = number_of_maps(group, target, 2)
        f = map_at(group, target, 2, number - 5)
        pieces = [f.step(a) for a in group.generators()]
        expected = f - GroupMap.constant(group, target, f(0))
        self.assertTrue(integrated(group, target, pieces) == expected)


if __name__ == "__main__":
    unittest.main()
