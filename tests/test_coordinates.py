import unittest
from itertools import product

from samples import (
    HUGE,
    NO_PRIMES,
    OTHER_ORDERS,
    PRIME_POWERS,
    SMALL,
    WRONG,
    RaisesTest,
    closed,
    minus_identity,
    times,
)
from stepsvanish.building import cyclic
from stepsvanish.coordinates import (
    basis_sum,
    coordinate_maps,
    element_of,
    exponents_of,
    weight_basis,
)
from stepsvanish.degrees import degree
from stepsvanish.errors import InvalidElement, InvalidModulus, InvalidVector, NotPrimePower
from stepsvanish.groups import Group
from stepsvanish.lattices import Lattice
from stepsvanish.maps import GroupMap
from stepsvanish.powers import power_chain, power_lattice
from stepsvanish.weights import dimension_subgroup

SMALLER = [(prime, table) for prime, table in PRIME_POWERS if len(table) < 10]


def basis_by_words(group, prime):
    """The weight basis by point 104 word for word."""
    found = []
    weight = 1
    while dimension_subgroup(group, prime, weight) != [0]:
        later = dimension_subgroup(group, prime, weight + 1)
        for x in dimension_subgroup(group, prime, weight):
            same = [member for at, member in found if at == weight]
            if x not in closed(group.rows, same + later):
                found.append((weight, x))
        weight += 1
    return found


def power_by_table(table, x, exponent):
    result = 0
    for _ in range(exponent):
        result = table[result][x]
    return result


def product_by_table(table, basis, exponents):
    result = 0
    for (_, member), exponent in zip(basis, exponents):
        result = table[result][power_by_table(table, member, exponent)]
    return result


def all_exponents(prime, basis):
    return [list(exponents) for exponents in product(range(prime if basis else 1), repeat=len(basis))]


def sum_by_words(table, basis, exponents):
    """The coefficients of the basis sum as a product of formal sums."""
    result = [1] + [0] * (len(table) - 1)
    for (_, member), exponent in zip(basis, exponents):
        for _ in range(exponent):
            result = times(table, result, minus_identity(table, member))
    return result


class WeightBasisTest(RaisesTest):
    def test_word_for_word(self):
        for prime, table in PRIME_POWERS:
            group = Group(table)
            found = weight_basis(group, prime)
            self.assertIsInstance(found, list)
            self.assertEqual(found, basis_by_words(group, prime))
            if len(table) > 1:
                self.assertEqual(prime ** len(found), len(table))

    def test_known_bases(self):
        self.assertEqual(weight_basis(cyclic(4), 2), [(1, 1), (2, 2)])
        self.assertEqual(weight_basis(cyclic(8), 2), [(1, 1), (2, 2), (4, 4)])
        self.assertEqual(weight_basis(cyclic(9), 3), [(1, 1), (3, 3)])
        self.assertEqual(weight_basis(Group(SMALL["klein"]), 2), [(1, 1), (1, 2)])

    def test_order_one(self):
        for prime in (2, 3, 31, 37, 999983):
            self.assertEqual(weight_basis(cyclic(1), prime), [])
            self.assertEqual(exponents_of(cyclic(1), prime, 0), [])
            self.assertEqual(element_of(cyclic(1), prime, []), 0)
            self.assertEqual(coordinate_maps(cyclic(1), prime), [])
            self.assertEqual(basis_sum(cyclic(1), prime, []), [1])

    def test_the_list_is_new(self):
        group = cyclic(4)
        weight_basis(group, 2).clear()
        self.assertEqual(weight_basis(group, 2), [(1, 1), (2, 2)])


class ExponentsTest(RaisesTest):
    def test_inverses_of_each_other(self):
        for prime, table in PRIME_POWERS:
            group = Group(table)
            basis = weight_basis(group, prime)
            seen = set()
            for exponents in all_exponents(prime, basis):
                kept = list(exponents)
                x = element_of(group, prime, exponents)
                self.assertEqual(x, product_by_table(table, basis, exponents))
                self.assertEqual(exponents_of(group, prime, x), exponents)
                self.assertIsInstance(exponents_of(group, prime, x), list)
                self.assertEqual(exponents, kept)
                seen.add(x)
            self.assertEqual(seen, set(range(group.order)))

    def test_any_exponents(self):
        for prime, table in PRIME_POWERS:
            group = Group(table)
            basis = weight_basis(group, prime)
            orders = [group.order_of(member) for _, member in basis]
            for salt in range(6):
                small = [(salt * 7 + 3 * at * at) % orders[at] for at in range(len(basis))]
                expected = product_by_table(table, basis, small)
                for sign in (-1, 1, 10**40, -(10**40), 10**5000):
                    exponents = [a + sign * order for a, order in zip(small, orders)]
                    self.assertEqual(element_of(group, prime, exponents), expected)

    def test_known_exponents(self):
        self.assertEqual(exponents_of(cyclic(4), 2, 3), [1, 1])
        self.assertEqual(element_of(cyclic(4), 2, [0, 1]), 2)
        self.assertEqual(element_of(cyclic(4), 2, [-1, 0]), 3)
        self.assertEqual(element_of(cyclic(4), 2, [5, 7]), 3)
        self.assertEqual([exponents_of(cyclic(9), 3, x) for x in (1, 3, 5)], [[1, 0], [0, 1], [2, 1]])

    def test_the_order_of_the_factors(self):
        # In a group that is not commutative the product in another order may differ.
        differing = 0
        for prime, table in PRIME_POWERS:
            basis = weight_basis(Group(table), prime)
            for exponents in all_exponents(prime, basis):
                turned = product_by_table(table, basis[::-1], exponents[::-1])
                differing += turned != element_of(Group(table), prime, exponents)
        self.assertGreater(differing, 0)


class CoordinateMapsTest(RaisesTest):
    def test_images_and_degrees(self):
        for prime, table in PRIME_POWERS:
            group = Group(table)
            basis = weight_basis(group, prime)
            maps = coordinate_maps(group, prime)
            self.assertIsInstance(maps, list)
            self.assertEqual(len(maps), len(basis))
            for at, f in enumerate(maps):
                self.assertIs(f.__class__, GroupMap)
                self.assertTrue(f.group == group)
                self.assertEqual(f.target.moduli, (prime,))
                expected = [(exponents_of(group, prime, x)[at],) for x in range(group.order)]
                self.assertEqual(list(f), expected)
                self.assertEqual(degree(f), basis[at][0])
            zeros = [x for x in range(group.order) if all(f(x) == (0,) for f in maps)]
            self.assertEqual(zeros, [0])


class BasisSumTest(RaisesTest):
    def test_products(self):
        for prime, table in PRIME_POWERS:
            group = Group(table)
            basis = weight_basis(group, prime)
            for exponents in all_exponents(prime, basis):
                kept = list(exponents)
                found = basis_sum(group, prime, exponents)
                self.assertIsInstance(found, list)
                expected = [q % prime for q in sum_by_words(table, basis, exponents)]
                self.assertEqual(found, expected)
                self.assertEqual(exponents, kept)
            zero = [0] * len(basis)
            self.assertEqual(basis_sum(group, prime, zero), [1] + [0] * (group.order - 1))

    def test_the_power_lattices(self):
        for prime, table in [case for case in PRIME_POWERS if len(case[1]) < 28]:
            group = Group(table)
            basis = weight_basis(group, prime)
            sums = []
            for exponents in all_exponents(prime, basis):
                weight = sum(at * k for (at, _), k in zip(basis, exponents))
                sums.append((weight, basis_sum(group, prime, exponents)))
            if prime < 100:
                length = len(power_chain(group, prime))
            else:
                length = 3
            for k in (*range(length + 2), HUGE):
                vectors = [vector for weight, vector in sums if weight >= k]
                lattice = Lattice(vectors, group.order, prime)
                self.assertTrue(lattice == power_lattice(group, k, prime))


class ErrorsTest(RaisesTest):
    def calls(self, group, prime):
        return [
            (weight_basis, group, prime),
            (coordinate_maps, group, prime),
            (exponents_of, group, prime, 0),
            (exponents_of, group, prime, -1),
            (exponents_of, group, prime, group.order),
            (element_of, group, prime, []),
            (element_of, group, prime, [1, 1]),
            (element_of, group, prime, [0] * 40),
            (basis_sum, group, prime, []),
            (basis_sum, group, prime, [-1, 10**5000]),
            (basis_sum, group, prime, [0] * 40),
        ]

    def test_integers_that_are_no_primes(self):
        for table in (SMALL["one"], SMALL["four"], SMALL["six"], SMALL["nine"]):
            for prime in NO_PRIMES:
                for call, *arguments in self.calls(Group(table), prime):
                    self.refused(InvalidModulus, call, *arguments)

    def test_orders_that_are_no_powers(self):
        for prime, table in OTHER_ORDERS:
            for call, *arguments in self.calls(Group(table), prime):
                self.refused(NotPrimePower, call, *arguments)

    def test_wrong_elements(self):
        for prime, table in SMALLER:
            for wrong in (*WRONG, len(table)):
                self.refused(InvalidElement, exponents_of, Group(table), prime, wrong)

    def test_wrong_exponents(self):
        for prime, table in SMALLER:
            group = Group(table)
            count = len(weight_basis(group, prime))
            for many in (*range(count), count + 1, count + 5):
                self.refused(InvalidVector, element_of, group, prime, [0] * many)
                self.refused(InvalidVector, basis_sum, group, prime, [0] * many)
            for at in range(count):
                for wrong in (-1, prime, prime + 1, 10**5000, -(10**5000)):
                    exponents = [0] * count
                    exponents[at] = wrong
                    self.refused(InvalidVector, basis_sum, group, prime, exponents)


class ExampleTest(RaisesTest):
    def test_the_example(self):
        group = cyclic(4)
        self.assertEqual(weight_basis(group, 2), [(1, 1), (2, 2)])
        self.assertEqual(exponents_of(group, 2, 3), [1, 1])
        self.assertEqual(element_of(group, 2, [0, 1]), 2)
        found = [f.images for f in coordinate_maps(group, 2)]
        self.assertEqual(found, [((0,), (1,), (0,), (1,)), ((0,), (0,), (1,), (1,))])
        self.assertEqual(basis_sum(group, 2, [1, 1]), [1, 1, 1, 1])


if __name__ == "__main__":
    unittest.main()
