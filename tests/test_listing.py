import unittest
from bisect import bisect_left
from itertools import islice, product

from samples import (
    CASES,
    HUGE,
    LARGE,
    SMALL,
    RaisesTest,
    case_objects,
    cyclic_table,
    degrees_of_case,
    listed_images,
    numbered_map,
)
from stepsvanish.degrees import degree
from stepsvanish.errors import DegreeTooHigh, InvalidIndex, InvalidModulus
from stepsvanish.groups import Group
from stepsvanish.lattices import Lattice
from stepsvanish.listing import (
    choice_counts,
    map_at,
    map_lattice,
    maps_before,
    maps_up_to,
    number_of_maps,
    position_of,
)
from stepsvanish.maps import GroupMap
from stepsvanish.powers import power_chain, power_lattice
from stepsvanish.targets import Target

BOUNDS = (-1, 0, 1, 2, 3, 7, HUGE)


def bounded():
    for name, moduli in CASES:
        group, target = case_objects(name, moduli)
        for bound in BOUNDS:
            yield group, target, bound, listed_images(name, moduli, bound)


class CountTest(RaisesTest):
    def test_numbers_of_maps(self):
        for group, target, bound, listed in bounded():
            self.assertEqual(number_of_maps(group, target, bound), len(listed))

    def test_choice_counts(self):
        for group, target, bound, listed in bounded():
            counts = choice_counts(group, target, bound)
            self.assertIsInstance(counts, list)
            self.assertEqual([len(row) for row in counts], [len(target.moduli)] * group.order)
            for f in (listed[0], listed[-1], listed[len(listed) // 3]):
                for x, row in enumerate(counts):
                    alike = [g for g in listed if g[:x] == f[:x]]
                    found = [len({g[x][j] for g in alike}) for j in range(len(target.moduli))]
                    self.assertEqual(row, found)

    def test_counts_are_radices(self):
        for table in LARGE.values():
            group, target = Group(table), Target([2, 4, 2])
            for bound in (-1, 0, 2, HUGE):
                counts = choice_counts(group, target, bound)
                number = 1
                for x, row in enumerate(counts):
                    for modulus, count in zip(target.moduli, row):
                        lattice = power_lattice(group, bound + 1, modulus)
                        self.assertEqual(count, lattice.rows[x][x])
                        number *= count
                self.assertEqual(number_of_maps(group, target, bound), number)

    def test_the_lists_are_new(self):
        group, target = Group(cyclic_table(4)), Target([4])
        counts = choice_counts(group, target, 1)
        kept = [list(row) for row in counts]
        counts[0].clear()
        counts.clear()
        self.assertEqual(choice_counts(group, target, 1), kept)

    def test_all_maps_of_a_large_group(self):
        group = Group(LARGE["many twos"])
        self.assertEqual(number_of_maps(group, Target([32]), HUGE), 32**32)
        self.assertEqual(number_of_maps(group, Target([31]), HUGE), 31)
        self.assertEqual(number_of_maps(group, Target([]), HUGE), 1)
        self.assertEqual(number_of_maps(group, Target([2]), 1), 2**6)


class PositionTest(RaisesTest):
    def test_maps_at_all_positions(self):
        for group, target, bound, listed in bounded():
            step = max(1, len(listed) // 40)
            for position in {*range(0, len(listed), step), len(listed) - 1}:
                f = map_at(group, target, bound, position)
                self.assertIs(f.__class__, GroupMap)
                self.assertTrue(f.group == group and f.target == target)
                self.assertEqual(f.images, listed[position])
                self.assertEqual(position_of(f, bound), position)
                self.assertEqual(maps_before(f, bound), position)

    def test_positions_outside(self):
        for group, target, bound, listed in bounded():
            for wrong in (-1, len(listed), len(listed) + 5, -HUGE, HUGE**3, -(10**5000)):
                self.refused(InvalidIndex, map_at, group, target, bound, wrong)
        self.refused(InvalidIndex, map_at, Group([[0]]), Target([]), HUGE, 1)

    def test_the_zero_map_is_first(self):
        for table in (*SMALL.values(), *LARGE.values()):
            for moduli in ((), (32,), (2, 3, 5)):
                group, target = Group(table), Target(list(moduli))
                zero = GroupMap.constant(group, target, target.zero)
                for bound in (-1, 0, 3, HUGE):
                    self.assertTrue(map_at(group, target, bound, 0) == zero)
                    self.assertEqual(position_of(zero, bound), 0)
                    self.assertEqual(maps_before(zero, bound), 0)
                self.assertEqual(number_of_maps(group, target, -1), 1)

    def test_the_last_position_of_large_groups(self):
        for table in LARGE.values():
            group, target = Group(table), Target([4, 8])
            for bound in (0, 1, 3, HUGE):
                number = number_of_maps(group, target, bound)
                for position in (number - 1, number // 2, number // 7):
                    f = map_at(group, target, bound, position)
                    self.assertLessEqual(degree(f), bound)
                    self.assertEqual(position_of(f, bound), position)
                    self.assertEqual(maps_before(f, bound), position)

    def test_degree_too_high(self):
        for name, moduli in CASES:
            group, target = case_objects(name, moduli)
            for images, found in list(degrees_of_case(name, moduli).items())[::3]:
                f = GroupMap(group, target, list(images))
                for bound in (-1, 0, 1, 2, HUGE):
                    if found is None or found > bound:
                        self.refused(DegreeTooHigh, position_of, f, bound)
                    else:
                        listed = listed_images(name, moduli, bound)
                        self.assertEqual(listed[position_of(f, bound)], images)

    def test_maps_before_any_map(self):
        for name, moduli in CASES:
            group, target = case_objects(name, moduli)
            for bound in (-1, 0, 1, 2, HUGE):
                listed = listed_images(name, moduli, bound)
                for images in list(degrees_of_case(name, moduli))[::5]:
                    f = GroupMap(group, target, list(images))
                    self.assertEqual(maps_before(f, bound), bisect_left(listed, images))

    def test_the_example(self):
        group, target = Group(cyclic_table(3)), Target([3])
        self.assertEqual(number_of_maps(group, target, 1), 9)
        self.assertEqual(map_at(group, target, 1, 5).images, ((1,), (2,), (0,)))
        f = GroupMap(group, target, [(1,), (2,), (1,)])
        self.assertEqual(maps_before(f, 1), 6)
        self.refused(DegreeTooHigh, position_of, f, 1)


class GeneratorTest(RaisesTest):
    def test_all_listed_maps(self):
        for group, target, bound, listed in bounded():
            found = list(maps_up_to(group, target, bound))
            self.assertEqual([f.images for f in found], listed)
            self.assertTrue(all(f.group == group and f.target == target for f in found))

    def test_stopped_after_a_few_maps(self):
        for table in LARGE.values():
            group, target = Group(table), Target([2, 16])
            found = list(islice(maps_up_to(group, target, HUGE), 5))
            self.assertEqual(len(found), 5)
            for position, f in enumerate(found):
                self.assertEqual(position_of(f, HUGE), position)

    def test_it_is_a_generator(self):
        found = maps_up_to(Group(cyclic_table(2)), Target([2]), 0)
        self.assertEqual(next(found).images, ((0,), (0,)))
        self.assertEqual(next(found).images, ((1,), (1,)))
        self.assertRaises(StopIteration, next, found)


class MapLatticeTest(RaisesTest):
    def test_members(self):
        for name, moduli in [case for case in CASES if len(case[1]) == 1]:
            group, modulus = Group(SMALL[name]), moduli[0]
            for bound in (-1, 0, 1, 2, HUGE):
                lattice = map_lattice(group, modulus, bound)
                self.assertIs(lattice.__class__, Lattice)
                self.assertEqual((lattice.width, lattice.modulus), (group.order, modulus))
                listed = {tuple(v for v, in f) for f in listed_images(name, moduli, bound)}
                for numbers in list(product(range(modulus), repeat=group.order))[::3]:
                    self.assertIs(lattice.contains(list(numbers)), numbers in listed)
                for numbers in list(listed)[:20]:
                    far = [entry - (x - 1) * modulus for x, entry in enumerate(numbers)]
                    self.assertTrue(lattice.contains(far))
                number = modulus**group.order // len(listed)
                self.assertEqual(lattice.coset_count(), number)

    def test_products_with_the_power_lattice(self):
        for name in ("four points", "sixteen corners", "quaternions"):
            group = Group(LARGE[name])
            for modulus in (1, 12, 64, 10**15):
                for bound in (-1, 0, 2, HUGE):
                    lattice = map_lattice(group, modulus, bound)
                    power = power_lattice(group, bound + 1, modulus)
                    for row in lattice.rows:
                        for vector in power.rows:
                            self.assertEqual(sum(a * b for a, b in zip(row, vector)) % modulus, 0)
                    counts = lattice.coset_count() * power.coset_count()
                    self.assertEqual(counts, modulus**group.order)

    def test_powers_of_a_prime(self):
        for name, prime in [
            ("one", 5),
            ("two", 2),
            ("three", 3),
            ("four", 2),
            ("klein", 2),
            ("eight", 2),
            ("square", 2),
            ("quaternion", 2),
            ("nine", 3),
        ]:
            group = Group(SMALL[name])
            last = len(power_chain(group, prime)) - 2
            for d in range(-1, last + 1):
                lattice = map_lattice(group, prime, last - 1 - d)
                self.assertTrue(lattice == power_lattice(group, d + 1, prime))

    def test_modulus_one(self):
        for bound in (-1, 0, HUGE):
            self.assertEqual(map_lattice(Group(cyclic_table(3)), 1, bound).coset_count(), 1)

    def test_wrong_moduli(self):
        for table in ([[0]], SMALL["symmetric"]):
            for modulus in (0, -1, -7, -(10**5000)):
                for bound in (-1, 0, HUGE):
                    self.refused(InvalidModulus, map_lattice, Group(table), modulus, bound)


class ArgumentsTest(unittest.TestCase):
    def test_maps_stay_as_they_are(self):
        f = numbered_map(SMALL["four"], (4, 2), 1)
        kept = f.images
        maps_before(f, 1)
        position_of(f, HUGE)
        self.assertEqual(f.images, kept)


if __name__ == "__main__":
    unittest.main()
