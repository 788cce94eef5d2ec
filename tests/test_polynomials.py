import unittest
from itertools import product
from math import comb

from samples import (
    CASES,
    NO_PRIMES,
    OTHER_ORDERS,
    PRIME_POWERS,
    SMALL,
    RaisesTest,
    case_objects,
    degrees_of_case,
    numbered_map,
)
from stepsvanish.building import cyclic
from stepsvanish.coordinates import basis_sum, exponents_of, weight_basis
from stepsvanish.degrees import degree
from stepsvanish.errors import (
    InvalidModulus,
    InvalidTarget,
    InvalidVector,
    LimitExceeded,
    NotPrimePower,
)
from stepsvanish.groups import Group
from stepsvanish.maps import GroupMap
from stepsvanish.polynomials import coefficients_of, from_coefficients, weight_of
from stepsvanish.targets import Target

# Cases with a prime modulus of which the order of the group is a power.
PRIME_CASES = [
    (name, moduli[0])
    for name, moduli in [*CASES, ("nine", (3,)), ("one", (2,)), ("one", (31,))]
    if len(moduli) == 1
    and moduli[0] in (2, 3, 31)
    and {2: (1, 2, 4, 8), 3: (1, 3, 9), 31: (1,)}[moduli[0]].count(len(SMALL[name]))
]

PLACES = [(prime, table) for prime, table in PRIME_POWERS if prime < 32]


def maps_with(name, prime):
    group, target = case_objects(name, (prime,))
    if name == "nine":
        yield from [numbered_map(SMALL[name], (prime,), salt) for salt in range(40)]
        return
    for images in degrees_of_case(name, (prime,)):
        yield GroupMap(group, target, list(images))


def value_by_words(group, prime, coefficients, x):
    """The image of the map of a polynomial by point 110 word for word."""
    place = exponents_of(group, prime, x)
    value = 0
    for exponents, coefficient in coefficients.items():
        for a, k in zip(place, exponents):
            coefficient *= comb(a, k)
        value += coefficient
    return (value % prime,)


def some_polynomials(prime, size):
    """Polynomials with coefficients of both signs and any size."""
    if size == 0:
        keys = [()]
    else:
        keys = list(product(range(prime), repeat=size))
    yield {}
    yield {keys[-1]: 1}
    yield {key: prime * 5 for key in keys}
    yield {key: at - 7 for at, key in enumerate(keys[::-1])}
    yield {key: (-1) ** at * 10 ** (20 * at) - at for at, key in enumerate(keys)}
    yield {keys[at * 7 % len(keys)]: 10**5000 + at for at in range(3)}
    yield {keys[at * 5 % len(keys)]: -(10**5000) - at * prime for at in range(4)}


class CoefficientsTest(RaisesTest):
    def test_there_and_back(self):
        self.assertGreaterEqual(len(PRIME_CASES), 9)
        for name, prime in PRIME_CASES:
            found = set()
            for f in maps_with(name, prime):
                coefficients = coefficients_of(f)
                self.assertIs(coefficients.__class__, dict)
                self.assertEqual(list(coefficients), sorted(coefficients))
                for key, coefficient in coefficients.items():
                    self.assertIs(key.__class__, tuple)
                    self.assertTrue(1 <= coefficient < prime)
                self.assertTrue(from_coefficients(f.group, prime, coefficients) == f)
                found.add((f.images, tuple(coefficients.items())))
            self.assertEqual(len({key for _, key in found}), len(found))

    def test_large_groups(self):
        for prime, table in PLACES:
            for salt in range(3):
                f = numbered_map(table, (prime,), salt)
                coefficients = coefficients_of(f)
                self.assertEqual(list(coefficients), sorted(coefficients))
                self.assertTrue(from_coefficients(f.group, prime, coefficients) == f)

    def test_values_at_basis_sums(self):
        for prime, table in PLACES:
            f = numbered_map(table, (prime,), 1)
            coefficients = coefficients_of(f)
            size = len(weight_basis(f.group, prime))
            for exponents in product(range(prime if size else 1), repeat=size):
                value = f.evaluate(basis_sum(f.group, prime, list(exponents)))
                self.assertEqual(coefficients.get(exponents, 0), value[0])
                self.assertNotEqual(coefficients.get(exponents, 1), 0)

    def test_the_zero_map(self):
        for prime, table in PLACES:
            zero = GroupMap.constant(Group(table), Target([prime]), (0,))
            self.assertEqual(coefficients_of(zero), {})
            self.assertTrue(from_coefficients(zero.group, prime, {}) == zero)

    def test_known_polynomials(self):
        f = GroupMap.from_parts(cyclic(3), Target([3]), [[0, 1, 1]])
        self.assertEqual(coefficients_of(f), {(1,): 1, (2,): 2})
        f = GroupMap.from_parts(cyclic(4), Target([2]), [[1, 0, 0, 0]])
        self.assertEqual(list(coefficients_of(f)), [(0, 0), (0, 1), (1, 0), (1, 1)])
        f = GroupMap.constant(cyclic(1), Target([31]), (30,))
        self.assertEqual(coefficients_of(f), {(): 30})

    def test_wrong_targets(self):
        for name in ("one", "two", "six", "nine"):
            for moduli in ((), (4,), (6,), (9,), (25,), (32,), (2, 2), (3, 5)):
                self.refused(InvalidTarget, coefficients_of, numbered_map(SMALL[name], moduli, 1))

    def test_orders_that_are_no_powers(self):
        for prime, table in OTHER_ORDERS:
            if prime < 32:
                self.refused(NotPrimePower, coefficients_of, numbered_map(table, (prime,), 1))
        self.refused(NotPrimePower, coefficients_of, numbered_map(SMALL["two"], (31,), 1))


class FromCoefficientsTest(RaisesTest):
    def test_word_for_word(self):
        for prime, table in PLACES:
            group = Group(table)
            for coefficients in some_polynomials(prime, len(weight_basis(group, prime))):
                kept = list(coefficients.items())
                f = from_coefficients(group, prime, coefficients)
                self.assertIs(f.__class__, GroupMap)
                self.assertTrue(f.group == group)
                self.assertEqual(f.target.moduli, (prime,))
                expected = [value_by_words(group, prime, coefficients, x) for x in range(group.order)]
                self.assertEqual(list(f), expected)
                self.assertEqual(list(coefficients.items()), kept)

    def test_reduced_coefficients(self):
        for prime, table in PLACES:
            group = Group(table)
            for coefficients in some_polynomials(prime, len(weight_basis(group, prime))):
                expected = {
                    key: coefficients[key] % prime
                    for key in sorted(coefficients)
                    if coefficients[key] % prime
                }
                found = coefficients_of(from_coefficients(group, prime, coefficients))
                self.assertEqual(list(found.items()), list(expected.items()))

    def test_errors(self):
        keys = ((), (0,), (0, 0), (9, 9), (-1,))
        for prime in NO_PRIMES:
            for table in (SMALL["one"], SMALL["four"], SMALL["six"]):
                for key in keys:
                    self.refused(InvalidModulus, from_coefficients, Group(table), prime, {key: 1})
        for prime, table in OTHER_ORDERS:
            for key in keys:
                self.refused(NotPrimePower, from_coefficients, Group(table), prime, {key: 1})

    def test_wrong_keys(self):
        for prime, table in PLACES:
            group = Group(table)
            size = len(weight_basis(group, prime))
            right = (0,) * size
            wrongs = [(0,) * many for many in range(8) if many != size]
            for at in range(size):
                for entry in (-1, prime, prime + 1, 10**5000, -(10**5000)):
                    wrongs.append((0,) * at + (entry,) + (0,) * (size - at - 1))
            for wrong in wrongs:
                for coefficients in ({wrong: 1}, {right: 1, wrong: 0}, {wrong: 0, right: 1}):
                    self.refused(InvalidVector, from_coefficients, group, prime, coefficients)
            several = {wrong: 1 for wrong in wrongs}
            self.refused(InvalidVector, from_coefficients, group, prime, several)

    def test_primes_above_the_limit(self):
        for prime in (37, 41, 101, 999983):
            for coefficients in ({}, {(): 1}, {(): 0}):
                self.refused(LimitExceeded, from_coefficients, cyclic(1), prime, coefficients)
            for coefficients in ({(0,): 1}, {(): 1, (0,): 1}):
                self.refused(InvalidVector, from_coefficients, cyclic(1), prime, coefficients)
            self.refused(NotPrimePower, from_coefficients, cyclic(2), prime, {(0,): 1})
        self.assertEqual(from_coefficients(cyclic(1), 31, {(): -1}).images, ((30,),))


class WeightTest(RaisesTest):
    def test_sums(self):
        for prime, table in PRIME_POWERS:
            group = Group(table)
            basis = weight_basis(group, prime)
            for salt in (0, 1, -1, 5, -(10**40), 10**5000):
                exponents = [salt * (at + 1) - at * at for at in range(len(basis))]
                expected = sum(basis[at][0] * exponents[at] for at in range(len(basis)))
                kept = list(exponents)
                self.assertEqual(weight_of(group, prime, exponents), expected)
                self.assertEqual(weight_of(group, prime, tuple(exponents)), expected)
                self.assertEqual(exponents, kept)

    def test_known_weights(self):
        self.assertEqual(weight_of(cyclic(8), 2, [1, 1, 1]), 7)
        self.assertEqual(weight_of(cyclic(8), 2, (-1, 5, 0)), 9)
        self.assertEqual(weight_of(cyclic(1), 999983, ()), 0)

    def test_degrees(self):
        for name, prime in PRIME_CASES:
            for f in maps_with(name, prime):
                weights = [weight_of(f.group, prime, key) for key in coefficients_of(f)]
                self.assertEqual(degree(f), max(weights, default=-1))

    def test_degrees_of_any_polynomials(self):
        for prime, table in PLACES:
            group = Group(table)
            for coefficients in some_polynomials(prime, len(weight_basis(group, prime))):
                weights = [
                    weight_of(group, prime, key)
                    for key, coefficient in coefficients.items()
                    if coefficient % prime
                ]
                f = from_coefficients(group, prime, coefficients)
                self.assertEqual(degree(f), max(weights, default=-1))

    def test_errors(self):
        for prime in NO_PRIMES:
            for table in (SMALL["one"], SMALL["four"], SMALL["six"]):
                for exponents in ([], [0], (0, 0)):
                    self.refused(InvalidModulus, weight_of, Group(table), prime, exponents)
        for prime, table in OTHER_ORDERS:
            for exponents in ([], [0], (0, 0)):
                self.refused(NotPrimePower, weight_of, Group(table), prime, exponents)
        for prime, table in PRIME_POWERS:
            size = len(weight_basis(Group(table), prime))
            for many in range(8):
                if many != size:
                    self.refused(InvalidVector, weight_of, Group(table), prime, [0] * many)
                    self.refused(InvalidVector, weight_of, Group(table), prime, (0,) * many)


if __name__ == "__main__":
    unittest.main()
