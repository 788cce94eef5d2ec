import unittest
from itertools import product

from samples import (
    CASES,
    HUGE,
    LARGE,
    NO_PRIMES,
    OTHER_ORDERS,
    PRIME_POWERS,
    SMALL,
    RaisesTest,
    case_objects,
    degrees_of_case,
    listed_images,
    numbered_map,
)
from stepsvanish.building import cyclic
from stepsvanish.degrees import degree
from stepsvanish.duality import dual_bound, inner_product, is_orthogonal, orthogonal_count
from stepsvanish.errors import InvalidModulus, InvalidTarget, Mismatch, NotPrimePower
from stepsvanish.groups import Group
from stepsvanish.growth import greatest_degree
from stepsvanish.listing import number_of_maps
from stepsvanish.maps import GroupMap
from stepsvanish.powers import power_chain
from stepsvanish.targets import Target

BOUNDS = (-1, 0, 1, 2, 3, 7, HUGE)
SINGLE_CASES = [(name, moduli) for name, moduli in CASES if len(moduli) == 1]


def maps_with(name, moduli):
    group, target = case_objects(name, moduli)
    for images in degrees_of_case(name, moduli):
        yield GroupMap(group, target, list(images))


def raw_inner(f, g, modulus):
    return sum(v[0] * w[0] for v, w in zip(f, g)) % modulus


class InnerProductTest(RaisesTest):
    def test_by_hand(self):
        group, target = cyclic(4), Target([5])
        f = GroupMap.from_parts(group, target, [[1, 2, 3, 4]])
        g = GroupMap.from_parts(group, target, [[0, 4, 4, 1]])
        self.assertEqual(inner_product(f, g), 4)
        self.assertEqual(inner_product(g, f), 4)
        self.assertEqual(inner_product(f, f), 0)
        self.assertEqual(inner_product(g, g), 3)
        one = GroupMap.constant(cyclic(1), Target([32]), (31,))
        self.assertEqual(inner_product(one, one), 1)

    def test_against_plain_sums(self):
        for table in (*SMALL.values(), *LARGE.values()):
            for modulus in (2, 6, 9, 31, 32):
                f = numbered_map(table, (modulus,), 1)
                g = numbered_map(table, (modulus,), 2)
                expected = raw_inner(f.images, g.images, modulus)
                self.assertEqual(inner_product(f, g), expected)
                # Equal groups and targets need not be the same objects.
                self.assertIs(inner_product(f, g).__class__, int)

    def test_errors(self):
        for moduli in ((), (5,), (2, 3)):
            f = numbered_map(SMALL["four"], moduli, 1)
            for other in ((), (7,), (3, 2), (6,)):
                self.refused(Mismatch, inner_product, f, numbered_map(SMALL["klein"], moduli, 1))
                if other != moduli:
                    g = numbered_map(SMALL["four"], other, 1)
                    self.refused(Mismatch, inner_product, f, g)
                    g = numbered_map(SMALL["klein"], other, 1)
                    self.refused(Mismatch, inner_product, f, g)
            if len(moduli) != 1:
                self.refused(InvalidTarget, inner_product, f, f)


class OrthogonalTest(RaisesTest):
    def test_against_inner_products(self):
        for name, moduli in SINGLE_CASES:
            listed = {bound: listed_images(name, moduli, bound) for bound in BOUNDS}
            maps = list(maps_with(name, moduli))
            for f in maps[:: 1 + len(maps) // 60]:
                for bound in BOUNDS:
                    products = [raw_inner(f.images, g, moduli[0]) for g in listed[bound]]
                    self.assertIs(is_orthogonal(f, bound), not any(products))

    def test_every_map_is_orthogonal_to_the_least_bound(self):
        for table in (*SMALL.values(), *LARGE.values()):
            for modulus in (2, 6, 31):
                self.assertIs(is_orthogonal(numbered_map(table, (modulus,), 1), -1), True)

    def test_large_bounds(self):
        for table in LARGE.values():
            group, target = Group(table), Target([4])
            zero = GroupMap.constant(group, target, (0,))
            self.assertIs(is_orthogonal(zero, HUGE), True)
            f = GroupMap.from_parts(group, target, [[1] + [0] * (group.order - 1)])
            self.assertIs(is_orthogonal(f, HUGE), False)
            self.assertIs(is_orthogonal(f, 0), False)

    def test_targets_without_exactly_one_modulus(self):
        for name in ("one", "symmetric"):
            for moduli in ((), (2, 2), (3, 2, 5)):
                for bound in BOUNDS:
                    f = numbered_map(SMALL[name], moduli, 1)
                    self.refused(InvalidTarget, is_orthogonal, f, bound)


class OrthogonalCountTest(RaisesTest):
    def test_against_all_maps(self):
        for name, moduli in SINGLE_CASES:
            group, _ = case_objects(name, moduli)
            maps = list(maps_with(name, moduli))
            if len(maps) > 300:
                continue
            for bound in BOUNDS:
                expected = sum(1 for f in maps if is_orthogonal(f, bound))
                self.assertEqual(orthogonal_count(group, moduli[0], bound), expected)

    def test_times_the_number_of_maps(self):
        for table in (*SMALL.values(), *LARGE.values()):
            group = Group(table)
            for modulus in (2, 3, 12, 31, 32):
                for bound in BOUNDS:
                    found = orthogonal_count(group, modulus, bound)
                    found *= number_of_maps(group, Target([modulus]), bound)
                    self.assertEqual(found, modulus**group.order)

    def test_wrong_moduli(self):
        for group in (cyclic(1), cyclic(6)):
            for modulus in (1, 0, -1, -2, -(10**5000)):
                for bound in BOUNDS:
                    self.refused(InvalidModulus, orthogonal_count, group, modulus, bound)


class DualBoundTest(RaisesTest):
    def test_all_bounds(self):
        for prime, table in PRIME_POWERS:
            group = Group(table)
            greatest = len(power_chain(group, prime)) - 2
            if prime < 32:
                self.assertEqual(greatest, greatest_degree(group, Target([prime])))
            for bound in (*range(-1, greatest + 3), HUGE, 10**5000):
                expected = max(-1, greatest - 1 - bound)
                self.assertEqual(dual_bound(group, prime, bound), expected)
            self.assertEqual(dual_bound(group, prime, -1), greatest)
            self.assertEqual(dual_bound(group, prime, greatest), -1)

    def test_known_bounds(self):
        self.assertEqual([dual_bound(cyclic(8), 2, d) for d in range(-1, 10)], [*range(7, -2, -1), -1, -1])
        for prime in (2, 3, 31, 37, 999983):
            self.assertEqual(dual_bound(cyclic(1), prime, -1), 0)
            self.assertEqual(dual_bound(cyclic(1), prime, 0), -1)

    def test_orthogonal_maps_have_bounded_degree(self):
        for name, modulus in (("eight", 2), ("quaternion", 2), ("klein", 2), ("three", 3)):
            group = Group(SMALL[name])
            for f, bound in product(list(maps_with(name, (modulus,)))[::3], range(-1, 9)):
                expected = degree(f) <= dual_bound(group, modulus, bound)
                self.assertIs(is_orthogonal(f, bound), expected)

    def test_errors(self):
        for bound in BOUNDS:
            for prime, table in OTHER_ORDERS:
                self.refused(NotPrimePower, dual_bound, Group(table), prime, bound)
            for prime in NO_PRIMES:
                for table in SMALL.values():
                    self.refused(InvalidModulus, dual_bound, Group(table), prime, bound)


if __name__ == "__main__":
    unittest.main()
