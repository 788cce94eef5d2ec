import unittest
from itertools import product

from samples import (
    CASES,
    HUGE,
    LARGE,
    SMALL,
    WRONG,
    RaisesTest,
    case_objects,
    cyclic_table,
    degrees_of_case,
    listed_images,
    product_table,
)
from stepsvanish.errors import InvalidElement
from stepsvanish.growth import (
    class_count,
    fixed_count,
    greatest_degree,
    growth,
    number_with_degree,
)
from stepsvanish.groups import Group
from stepsvanish.listing import number_of_maps
from stepsvanish.maps import GroupMap
from stepsvanish.powers import power_chain
from stepsvanish.targets import Target


def translate(table, images, a):
    return tuple(images[place] for place in table[a])


class GreatestDegreeTest(unittest.TestCase):
    def test_small_cases(self):
        for name, moduli in CASES:
            found = [d for d in degrees_of_case(name, moduli).values() if d is not None]
            self.assertEqual(greatest_degree(*case_objects(name, moduli)), max(found))

    def test_no_moduli(self):
        for table in (*SMALL.values(), *LARGE.values()):
            self.assertEqual(greatest_degree(Group(table), Target([])), -1)

    def test_chains(self):
        for table in (*SMALL.values(), *LARGE.values()):
            group = Group(table)
            for moduli in ([2], [3, 4], [2, 4, 2], [30], [32]):
                longest = max(len(power_chain(group, modulus)) for modulus in moduli)
                self.assertEqual(greatest_degree(group, Target(moduli)), longest - 2)

    def test_the_formula(self):
        for orders, prime in [
            ((2,), 2),
            ((4,), 2),
            ((32,), 2),
            ((2, 4), 2),
            ((4, 8), 2),
            ((2, 2, 2, 2, 2), 2),
            ((16, 2), 2),
            ((3,), 3),
            ((9, 3), 3),
            ((27,), 3),
            ((5, 5), 5),
            ((31,), 31),
        ]:
            table = [[0]]
            for order in orders:
                table = product_table(table, cyclic_table(order))
            power, b = prime, 1
            while power <= 32:
                expected = sum(order - 1 for order in orders)
                expected += (b - 1) * (prime - 1) * max(orders) // prime
                self.assertEqual(greatest_degree(Group(table), Target([power])), expected)
                power, b = power * prime, b + 1


class GrowthTest(unittest.TestCase):
    def test_small_cases(self):
        for name, moduli in CASES:
            group, target = case_objects(name, moduli)
            numbers = growth(group, target)
            self.assertIsInstance(numbers, list)
            self.assertEqual(len(numbers), greatest_degree(group, target) + 2)
            found = degrees_of_case(name, moduli).values()
            for d, number in enumerate(numbers, start=-1):
                self.assertEqual(number, len(listed_images(name, moduli, d)))
                exactly = sum(1 for value in found if value == d)
                self.assertEqual(number_with_degree(group, target, d), exactly)

    def test_large_groups(self):
        for table in LARGE.values():
            group = Group(table)
            for moduli in ([], [2], [4, 8], [30], [31], [2, 2, 2, 2, 2]):
                target = Target(moduli)
                numbers = growth(group, target)
                self.assertEqual(numbers[0], 1)
                self.assertEqual(numbers, sorted(set(numbers)))
                if moduli:
                    self.assertEqual(numbers[1], target.order)
                self.assertEqual(numbers[-1], number_of_maps(group, target, HUGE))

    def test_no_moduli(self):
        group = Group(cyclic_table(4))
        self.assertEqual(growth(group, Target([])), [1])
        self.assertEqual(number_with_degree(group, Target([]), -1), 1)
        self.assertEqual(number_with_degree(group, Target([]), 0), 0)

    def test_number_with_degree(self):
        for table in (SMALL["one"], SMALL["three"], SMALL["symmetric"], LARGE["quaternions"]):
            group = Group(table)
            for moduli in ([2], [4, 3], [31]):
                target = Target(moduli)
                greatest = greatest_degree(group, target)
                self.assertEqual(number_with_degree(group, target, -1), 1)
                self.assertEqual(number_with_degree(group, target, 0), target.order - 1)
                self.assertGreater(number_with_degree(group, target, greatest), 0)
                for far in (1, 2, 100, HUGE):
                    self.assertEqual(number_with_degree(group, target, greatest + far), 0)

    def test_the_list_is_new(self):
        group, target = Group(cyclic_table(4)), Target([4])
        growth(group, target).clear()
        self.assertEqual(growth(group, target)[:2], [1, 4])


class TranslateTest(RaisesTest):
    def test_fixed_counts(self):
        for name, moduli in CASES:
            group, target = case_objects(name, moduli)
            for bound in (-1, 0, 1, 2, HUGE):
                listed = listed_images(name, moduli, bound)
                for a in range(group.order):
                    expected = sum(1 for f in listed if translate(group.rows, f, a) == f)
                    self.assertEqual(fixed_count(group, target, bound, a), expected)

    def test_translates_are_taken_from_the_left(self):
        # A map that is constant on the other cosets is not fixed.
        group, target = Group(SMALL["symmetric"]), Target([2])
        fixed = fixed_count(group, target, HUGE, 1)
        maps = [GroupMap(group, target, list(f)) for f in listed_images("symmetric", (2,), HUGE)]
        self.assertEqual(fixed, sum(1 for f in maps if f.translated(1) == f))

    def test_classes(self):
        for name, moduli in CASES:
            group, target = case_objects(name, moduli)
            for bound in (-1, 0, 1, 2, HUGE):
                classes = set()
                for f in listed_images(name, moduli, bound):
                    classes.add(min(translate(group.rows, f, a) for a in range(group.order)))
                self.assertEqual(class_count(group, target, bound), len(classes))

    def test_the_sum_of_the_fixed_counts(self):
        for name, moduli in product(LARGE, ([], [2], [2, 4])):
            group, target = Group(LARGE[name]), Target(moduli)
            for bound in (-1, 0, 2, HUGE):
                counts = [fixed_count(group, target, bound, a) for a in range(group.order)]
                self.assertEqual(counts[0], number_of_maps(group, target, bound))
                self.assertEqual(sum(counts), group.order * class_count(group, target, bound))

    def test_wrong_members(self):
        for table in (SMALL["one"], SMALL["symmetric"]):
            group = Group(table)
            for moduli in ([], [4]):
                for bound in (-1, 2, HUGE):
                    for wrong in (*WRONG, group.order):
                        self.refused(
                            InvalidElement, fixed_count, group, Target(moduli), bound, wrong
                        )


if __name__ == "__main__":
    unittest.main()
