import unittest
from itertools import product
from math import comb, factorial

from samples import HUGE, RaisesTest
from stepsvanish.building import cyclic
from stepsvanish.errors import InvalidModulus, InvalidVector, Mismatch, NoDegree
from stepsvanish.series import Series, binomial
from stepsvanish.targets import Target

MODULI = (1, 2, 3, 4, 5, 6, 8, 9, 12, 30, 32, 49, 1000, 999983, 1000000)
LISTS = [
    [],
    [0],
    [1],
    [-1],
    [0, 1],
    [5, 0, 0],
    [0, 0, 3],
    [1, 2, 3, 4, 5],
    [7, -3, 10**40, 6],
    [10**5000 + 1, -(10**5000), 12],
    [6] * 9,
    [at * at - 40 for at in range(20)],
]
POINTS = (*range(-20, 40), 1000, -1000, HUGE, -HUGE)


def generalized(top, bottom):
    """Binomial coefficients by way of those of integers that are not negative."""
    if top >= 0:
        return comb(top, bottom)
    return (-1) ** bottom * comb(bottom - top - 1, bottom)


def value_by_words(modulus, coefficients, x):
    return sum(c * generalized(x, k) for k, c in enumerate(coefficients)) % modulus


def kept(modulus, coefficients):
    reduced = [c % modulus for c in coefficients]
    while reduced and reduced[-1] == 0:
        reduced.pop()
    return tuple(reduced)


def prime_power_parts(number):
    """The tuples of a prime and its greatest power that divides the number."""
    found, prime = [], 2
    while number > 1:
        power = 1
        while number % prime == 0:
            number //= prime
            power *= prime
        if power > 1:
            found.append((prime, power))
        prime += 1
    return found


class BinomialTest(RaisesTest):
    def test_small_tops(self):
        for top in range(-60, 61):
            for bottom in (*range(12), 60, 61, 200):
                self.assertEqual(binomial(top, bottom), generalized(top, bottom))

    def test_products(self):
        for top in (-7, 0, 5, 10**30, -(10**30), 2**200 + 1):
            for bottom in (0, 1, 2, 5, 17, 200):
                numerator = 1
                for at in range(bottom):
                    numerator *= top - at
                self.assertEqual(numerator % factorial(bottom), 0)
                self.assertEqual(binomial(top, bottom), numerator // factorial(bottom))

    def test_the_examples(self):
        self.assertEqual(binomial(5, 2), 10)
        self.assertEqual(binomial(2, 3), 0)
        self.assertEqual(binomial(-2, 3), -4)

    def test_bottom_zero(self):
        for top in (0, 1, -1, 10**5000, -(10**5000)):
            self.assertEqual(binomial(top, 0), 1)
            self.assertEqual(binomial(top, 1), top)


class SeriesTest(RaisesTest):
    def test_kept_coefficients(self):
        for modulus, coefficients in product(MODULI, LISTS):
            given = list(coefficients)
            s = Series(modulus, given)
            self.assertEqual(given, coefficients)
            self.assertEqual(s.modulus, modulus)
            self.assertIs(s.coefficients.__class__, tuple)
            self.assertEqual(s.coefficients, kept(modulus, coefficients))
            given.append(1)
            self.assertEqual(s.coefficients, kept(modulus, coefficients))

    def test_equality(self):
        for modulus, first, second in product(MODULI[:8], LISTS, LISTS):
            expected = kept(modulus, first) == kept(modulus, second)
            self.assertIs(Series(modulus, first) == Series(modulus, second), expected)
            self.assertIs(Series(modulus, first) != Series(modulus, second), not expected)
        self.assertFalse(Series(4, [1]) == Series(2, [1]))
        self.assertFalse(Series(4, []) == Series(2, []))
        self.assertTrue(Series(4, [5, 0, 4]) == Series(4, [1]))
        for other in (None, 0, (), [1], Target([4]), cyclic(4)):
            self.assertFalse(Series(4, [1]) == other)
            self.assertTrue(Series(4, [1]) != other)

    def test_equal_values_mean_equal_series(self):
        for modulus in (2, 3, 4, 6):
            seen = {}
            for coefficients in product(range(modulus), repeat=3):
                s = Series(modulus, list(coefficients))
                values = tuple(s(x) for x in range(-3, 12))
                self.assertTrue(seen.setdefault(values, s) == s)
            self.assertEqual(len(seen), modulus**3)

    def test_values(self):
        for modulus, coefficients in product(MODULI, LISTS):
            s = Series(modulus, coefficients)
            for x in POINTS:
                self.assertEqual(s(x), value_by_words(modulus, coefficients, x))

    def test_very_large_integers(self):
        coefficients = [at * at + 1 for at in range(100)]
        for modulus in (2, 12, 999983, 1000000):
            s = Series(modulus, coefficients)
            for x in (10**60, -(10**60) - 1, 10**200 + 77):
                self.assertEqual(s(x), value_by_words(modulus, coefficients, x))
            # The period shows which small integer has the same value.
            period = s.period()
            for x in (10**5000, -(10**5000) + 3):
                self.assertEqual(s(x), value_by_words(modulus, coefficients, x % period))

    def test_modulus_one(self):
        for coefficients in LISTS:
            s = Series(1, coefficients)
            self.assertEqual(s.coefficients, ())
            self.assertEqual([s(x) for x in POINTS], [0] * len(POINTS))
            self.assertEqual((s.degree(), s.period()), (-1, 1))
            for t in (s + s, s - s, s * s, -s, s.difference(), s.running_sum()):
                self.assertTrue(t == s)

    def test_wrong_moduli(self):
        for modulus in (0, -1, -2, -(10**5000)):
            for coefficients in LISTS[:4]:
                self.refused(InvalidModulus, Series, modulus, coefficients)


class ArithmeticTest(RaisesTest):
    def test_values(self):
        for modulus in (1, 2, 6, 8, 9, 1000000):
            for first, second in product(LISTS, repeat=2):
                s, t = Series(modulus, first), Series(modulus, second)
                before = (s.coefficients, t.coefficients)
                for found, sign in ((s + t, 1), (s - t, -1)):
                    self.assertIs(found.__class__, Series)
                    for x in (-30, -1, 0, 1, 2, 5, 77):
                        self.assertEqual(found(x), (s(x) + sign * t(x)) % modulus)
                for x in (-30, -1, 0, 1, 2, 5, 77, HUGE):
                    self.assertEqual((s * t)(x), s(x) * t(x) % modulus)
                    self.assertEqual((-s)(x), -s(x) % modulus)
                self.assertEqual((s.coefficients, t.coefficients), before)

    def test_kept_coefficients(self):
        for modulus in (2, 6, 9):
            for first, second in product(LISTS, repeat=2):
                s, t = Series(modulus, first), Series(modulus, second)
                for found in (s + t, s - t, -s, s * t):
                    self.assertEqual(found.modulus, modulus)
                    self.assertEqual(found.coefficients, kept(modulus, found.coefficients))
                self.assertTrue(s - s == Series(modulus, []))
                self.assertTrue(s + -s == Series(modulus, []))
                a, b = len(s.coefficients), len(t.coefficients)
                many = len((s * t).coefficients)
                self.assertTrue(many < a + b if a and b else many == 0)

    def test_known_products(self):
        x = Series(8, [0, 1])
        self.assertEqual((x * x).coefficients, (0, 1, 2))
        self.assertEqual((x * x * x).coefficients, (0, 1, 6, 6))
        self.assertEqual((Series(4, [2]) * Series(4, [2])).coefficients, ())

    def test_products_with_many_coefficients(self):
        s = Series(30, [at * 7 + 1 for at in range(100)])
        t = s * s * s
        self.assertEqual(t.degree() < 300, True)
        for x in (0, 5, 299, 1000, -1):
            self.assertEqual(t(x), s(x) ** 3 % 30)

    def test_mismatch(self):
        for first, second in ((2, 4), (1, 3), (6, 5)):
            for left, right in product(([], [1], [1, 2]), repeat=2):
                s, t = Series(first, left), Series(second, right)
                self.refused(Mismatch, lambda: s + t)
                self.refused(Mismatch, lambda: s - t)
                self.refused(Mismatch, lambda: s * t)
                self.refused(Mismatch, lambda: t * s)

    def test_coefficients_from_values(self):
        for modulus, coefficients in product((2, 4, 30), LISTS):
            s = Series(modulus, coefficients)
            for k in range(len(coefficients) + 3):
                found = sum((-1) ** (k - i) * comb(k, i) * s(i) for i in range(k + 1)) % modulus
                self.assertEqual(found, (*s.coefficients, *[0] * 30)[k])


class DifferenceTest(RaisesTest):
    def test_values(self):
        for modulus, coefficients in product((1, 2, 6, 8, 9, 1000000), LISTS):
            s = Series(modulus, coefficients)
            for by in (0, 1, 2, -1, -5, 17, 1000, HUGE, -HUGE, 10**5000, -(10**5000)):
                t = s.difference(by)
                self.assertIs(t.__class__, Series)
                self.assertEqual(t.modulus, modulus)
                for x in (-7, 0, 1, 30):
                    self.assertEqual(t(x), (s(x + by) - s(x)) % modulus)
            self.assertTrue(s.difference() == s.difference(1))
            self.assertTrue(s.difference(by=2) == s.difference(2))
            self.assertEqual(s.difference(0).coefficients, ())
            self.assertEqual(s.difference().coefficients, s.coefficients[1:])

    def test_the_formula(self):
        for modulus, coefficients in product((4, 9, 30), LISTS):
            s = Series(modulus, coefficients)
            c = (*s.coefficients, *[0] * 60)
            for by in (3, -2, 29):
                expected = [
                    sum(generalized(by, j) * c[k + j] for j in range(1, 25)) for k in range(24)
                ]
                self.assertEqual(s.difference(by).coefficients, kept(modulus, expected))

    def test_running_sums(self):
        for modulus, coefficients in product(MODULI, LISTS):
            s = Series(modulus, coefficients)
            t = s.running_sum()
            self.assertIs(t.__class__, Series)
            self.assertEqual(t(0), 0)
            for x in (-30, -1, 0, 1, 2, 77, HUGE):
                self.assertEqual((t(x + 1) - t(x)) % modulus, s(x))
            self.assertTrue(t.difference() == s)


class DegreeTest(RaisesTest):
    def test_degrees(self):
        for modulus, coefficients in product(MODULI, LISTS):
            s = Series(modulus, coefficients)
            self.assertEqual(s.degree(), len(kept(modulus, coefficients)) - 1)

    def test_repeated_differences(self):
        for modulus in (2, 4, 6):
            for coefficients in product(range(modulus), repeat=3):
                s = Series(modulus, list(coefficients))
                steps = 0
                maps = [s]
                while any(t.coefficients for t in maps):
                    maps = [t.difference(by) for t in maps for by in (1, 2, -1)]
                    steps += 1
                self.assertEqual(s.degree(), steps - 1)


class PeriodTest(RaisesTest):
    def least_period(self, s, limit):
        values = [s(x) for x in range(2 * limit + 1)]
        for period in range(1, limit + 1):
            if all(values[x] == values[x + period] for x in range(limit)):
                return period
        return None

    def test_against_the_definition(self):
        for modulus in (2, 3, 4, 5, 6, 8, 9, 10, 12):
            for coefficients in [*LISTS[:9], [0, 0, 1], [0, 0, 0, 2], [1, 3, 0, 1], [0] * 8 + [1]]:
                s = Series(modulus, coefficients)
                limit = 1
                for prime, power in prime_power_parts(modulus):
                    factor = power
                    while factor // power * prime <= max(1, s.degree()):
                        factor *= prime
                    limit *= factor
                expected = self.least_period(s, limit)
                self.assertEqual(s.period(), expected)
                self.assertEqual(s.difference(s.period()).coefficients, ())

    def test_known_periods(self):
        self.assertEqual(Series(4, [0, 1]).period(), 4)
        self.assertEqual(Series(4, [0, 2]).period(), 2)
        self.assertEqual(Series(2, [0, 0, 1]).period(), 4)
        self.assertEqual(Series(6, [0, 1]).period(), 6)
        self.assertEqual(Series(6, [1, 2]).period(), 3)
        self.assertEqual(Series(999983, [0, 1]).period(), 999983)
        self.assertEqual(Series(1000000, [7]).period(), 1)
        self.assertEqual(Series(1000000, []).period(), 1)

    def test_prime_powers(self):
        for prime, exponent in ((2, 1), (2, 5), (3, 2), (5, 1), (2, 19), (31, 3)):
            modulus = prime**exponent
            for coefficients in LISTS:
                s = Series(modulus, coefficients)
                period = s.period()
                self.assertEqual(s.difference(period).coefficients, ())
                if period > 1:
                    self.assertEqual(period % prime, 0)
                    self.assertNotEqual(s.difference(period // prime).coefficients, ())
                else:
                    self.assertLessEqual(s.degree(), 0)

    def test_products_of_periods(self):
        for modulus in (6, 12, 30, 1000000, 999999):
            for coefficients in LISTS:
                expected = 1
                for _, power in prime_power_parts(modulus):
                    expected *= Series(power, coefficients).period()
                self.assertEqual(Series(modulus, coefficients).period(), expected)

    def test_many_coefficients(self):
        s = Series(2, [0] * 99 + [1])
        self.assertEqual(s.period(), 128)
        self.assertEqual(Series(32, [1] * 100).period(), 2048)


def is_possible(values, modulus):
    """The condition of point 119."""
    count = len(values)
    for prime, power in prime_power_parts(modulus):
        q = 1
        while count % (q * prime) == 0:
            q *= prime
        for x in range(count):
            if (values[(x + q) % count] - values[x]) % power != 0:
                return False
    return True


class FromValuesTest(RaisesTest):
    def check(self, values, modulus):
        given = list(values)
        if not is_possible(values, modulus):
            self.refused(NoDegree, Series.from_values, given, modulus)
            self.assertEqual(given, list(values))
            return False
        s = Series.from_values(given, modulus)
        self.assertEqual(given, list(values))
        self.assertIs(s.__class__, Series)
        self.assertEqual(s.modulus, modulus)
        for x in (*range(-len(values), 2 * len(values)), HUGE, -HUGE):
            self.assertEqual(s(x), values[x % len(values)] % modulus)
        return True

    def test_all_short_lists(self):
        for modulus in (1, 2, 3, 4, 6):
            for count in (1, 2, 3, 4):
                found = [self.check(values, modulus) for values in product(range(modulus), repeat=count)]
                self.assertIn(True, found)

    def test_long_lists(self):
        for modulus in (1, 2, 4, 8, 9, 16, 27, 30, 31, 32):
            for count in (1, 2, 3, 5, 6, 8, 9, 12, 16, 27, 31, 32):
                self.check([x * x * 7 - 3 * x + 10**40 for x in range(count)], modulus)
                self.check([3] * count, modulus)
                self.check([-5 if x == 0 else 7 for x in range(count)], modulus)
                for prime, power in prime_power_parts(modulus):
                    q = 1
                    while count % (q * prime) == 0:
                        q *= prime
                    lift = modulus // power
                    values = [lift * (x % q * 5 + 1) for x in range(count)]
                    self.assertTrue(self.check(values, modulus))

    def test_no_long_period_of_two(self):
        for b in range(1, 6):
            values = [x * x * x % 23 - 11 for x in range(32)]
            self.assertTrue(self.check(values, 2**b))
            s = Series.from_values(values, 2**b)
            self.assertLessEqual(s.degree(), 31 + (b - 1) * 16)

    def test_degrees(self):
        s = Series.from_values([1] + [0] * 7, 4)
        self.assertEqual(s.degree(), 7 + 4)
        self.assertEqual(Series.from_values([5, 5, 5], 7).coefficients, (5,))
        self.assertEqual(Series.from_values([7, 0, 14], 7).coefficients, ())

    def test_the_examples(self):
        self.assertEqual(Series.from_values([0, 1], 4).coefficients, (0, 1, 2))
        self.refused(NoDegree, Series.from_values, [0, 1], 3)

    def test_modulus_one(self):
        for values in ([0], [1, 2, 3], [10**5000] * 32):
            self.assertEqual(Series.from_values(values, 1).coefficients, ())

    def test_errors(self):
        for modulus in (0, -1, -(10**5000)):
            for values in ([], [0], [0, 1]):
                self.refused(InvalidModulus, Series.from_values, values, modulus)
        for modulus in (1, 2, 3, 30, 32):
            self.refused(InvalidVector, Series.from_values, [], modulus)

    def test_called_off_an_object(self):
        self.assertTrue(Series(2, []).from_values([0, 1], 4) == Series(4, [0, 1, 2]))


if __name__ == "__main__":
    unittest.main()
