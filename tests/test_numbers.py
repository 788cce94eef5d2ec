import unittest

from stepsvanish.numbers import factored, is_prime


def sieve(limit):
    prime = [False, False] + [True] * (limit - 1)
    for p in range(2, limit + 1):
        if prime[p]:
            for multiple in range(2 * p, limit + 1, p):
                prime[multiple] = False
    return prime


class FactoredTest(unittest.TestCase):
    def test_known_factors(self):
        for number, factors in [
            (1, []),
            (2, [(2, 1)]),
            (4, [(2, 2)]),
            (12, [(2, 2), (3, 1)]),
            (27, [(3, 3)]),
            (30030, [(2, 1), (3, 1), (5, 1), (7, 1), (11, 1), (13, 1)]),
            (720720, [(2, 4), (3, 2), (5, 1), (7, 1), (11, 1), (13, 1)]),
            (961, [(31, 2)]),
            (994009, [(997, 2)]),
            (970299, [(3, 6), (11, 3)]),
            (912673, [(97, 3)]),
            (524288, [(2, 19)]),
            (999983, [(999983, 1)]),
            (999997, [(757, 1), (1321, 1)]),
            (999999, [(3, 3), (7, 1), (11, 1), (13, 1), (37, 1)]),
            (1000000, [(2, 6), (5, 6)]),
        ]:
            self.assertEqual(factored(number), factors)

    def test_small_numbers_against_a_sieve(self):
        prime = sieve(3000)
        for number in range(1, 3001):
            factors = factored(number)
            product = 1
            for p, exponent in factors:
                self.assertTrue(prime[p])
                self.assertGreaterEqual(exponent, 1)
                product *= p**exponent
            self.assertEqual(product, number)
            primes = [p for p, _ in factors]
            self.assertEqual(primes, sorted(set(primes)))

    def test_the_result_is_a_new_list_of_tuples(self):
        first = factored(12)
        first.append((5, 1))
        self.assertEqual(factored(12), [(2, 2), (3, 1)])
        self.assertIsInstance(factored(12)[0], tuple)
        none = factored(1)
        none.append(1)
        self.assertEqual(factored(1), [])


class IsPrimeTest(unittest.TestCase):
    def test_small_numbers_against_a_sieve(self):
        for number, answer in enumerate(sieve(3000)):
            self.assertIs(is_prime(number), answer)

    def test_zero_and_negative_integers(self):
        for number in (0, -1, -2, -3, -7, -999983, -(10**30), -(10**5000) - 1):
            self.assertIs(is_prime(number), False)

    def test_near_the_greatest_number(self):
        primes = [n for n in range(999900, 1000001) if is_prime(n)]
        self.assertEqual(primes, [999907, 999917, 999931, 999953, 999959, 999961, 999979, 999983])
        self.assertIs(is_prime(994009), False)
        self.assertIs(is_prime(961), False)
        self.assertIs(is_prime(1), False)


if __name__ == "__main__":
    unittest.main()
