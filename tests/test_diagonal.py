import unittest
from fractions import Fraction
from itertools import combinations
from math import gcd
from random import Random

from samples import CASES, LARGE, SMALL, RaisesTest, case_objects, cyclic_table, listed_images
from stepsvanish.building import cyclic, quotient
from stepsvanish.diagonal import DiagonalForm, diagonal_form, divisor_row, divisors
from stepsvanish.errors import InvalidModulus
from stepsvanish.groups import Group
from stepsvanish.lattices import Lattice
from stepsvanish.powers import power_lattice
from stepsvanish.subgroups import commutator_subgroup

BIG = 10**60 + 7
MODULI = (1, 2, 3, 4, 6, 12, 27, 60, 97, 2**20, 3**10, 720720, 10**13, 10**13 - 1, 2**43)


def product_of(left, right):
    columns = list(zip(*right))
    return [[sum(a * b for a, b in zip(row, column)) for column in columns] for row in left]


def reduced(table, modulus):
    return [[entry % modulus for entry in row] for row in table]


def identity(size):
    return [[int(i == j) for j in range(size)] for i in range(size)]


def determinant(table):
    rows = [[Fraction(entry) for entry in row] for row in table]
    result = Fraction(1)
    for at in range(len(rows)):
        found = [i for i in range(at, len(rows)) if rows[i][at] != 0]
        if not found:
            return 0
        if found[0] != at:
            rows[at], rows[found[0]] = rows[found[0]], rows[at]
            result = -result
        result *= rows[at][at]
        for i in range(at + 1, len(rows)):
            factor = rows[i][at] / rows[at][at]
            rows[i] = [a - factor * b for a, b in zip(rows[i], rows[at])]
    return int(result)


def minors(table, size):
    for rows in combinations(table, size):
        for places in combinations(range(len(table[0])), size):
            yield determinant([[row[j] for j in places] for row in rows])


def divisors_by_minors(table):
    found, before = [], 1
    for size in range(1, min(len(table), len(table[0])) + 1):
        common = gcd(*minors(table, size))
        if common == 0:
            break
        found.append(common // before)
        before = common
    return found


def some_table(random, height, width, limit):
    return [[random.randint(-limit, limit) for _ in range(width)] for _ in range(height)]


def hidden(random, diagonal, height, width):
    """A table with the given divisors that does not show them."""
    table = [[0] * width for _ in range(height)]
    for at, divisor in enumerate(diagonal):
        table[at][at] = divisor
    for _ in range(3 * height):
        i, j = random.randrange(height), random.randrange(height)
        if i != j:
            factor = random.choice((-1, 1, 2))
            table[i] = [a + factor * b for a, b in zip(table[i], table[j])]
    columns = [list(column) for column in zip(*table)]
    for _ in range(3 * width):
        i, j = random.randrange(width), random.randrange(width)
        if i != j:
            columns[i] = [a - b for a, b in zip(columns[i], columns[j])]
    return [list(row) for row in zip(*columns)]


class DiagonalFormTest(RaisesTest):
    def check(self, table, modulus):
        """Every condition of point 35; returns the divisors."""
        kept = [list(row) for row in table]
        form = diagonal_form(table, modulus=modulus)
        self.assertEqual(table, kept)
        self.assertIs(form.__class__, DiagonalForm)
        self.assertEqual(form.modulus, modulus)
        height, width = len(table), len(table[0])
        for rows, size in (
            (form.left, height),
            (form.left_inverse, height),
            (form.right, width),
            (form.right_inverse, width),
        ):
            self.assertIsInstance(rows, list)
            self.assertEqual([len(row) for row in rows], [size] * size)
            for row in rows:
                self.assertIsInstance(row, list)
                self.assertTrue(all(0 <= entry < modulus for entry in row))
        for rows, inverse in (
            (form.left, form.left_inverse),
            (form.right, form.right_inverse),
        ):
            expected = reduced(identity(len(rows)), modulus)
            self.assertEqual(reduced(product_of(rows, inverse), modulus), expected)
        self.assertIsInstance(form.divisors, list)
        self.assertEqual(len(form.divisors), min(height, width))
        for before, divisor in zip([1, *form.divisors], form.divisors):
            self.assertGreaterEqual(divisor, 1)
            self.assertEqual((divisor % before, modulus % divisor), (0, 0))
        expected = [[0] * width for _ in range(height)]
        for at, divisor in enumerate(form.divisors):
            expected[at][at] = divisor % modulus
        result = product_of(product_of(form.left, table), form.right)
        self.assertEqual(reduced(result, modulus), expected)
        return form.divisors

    def test_the_example(self):
        self.assertEqual(self.check([[2, 0], [0, 3]], 12), [1, 6])

    def test_one_row_or_one_column(self):
        for modulus in MODULI:
            self.assertEqual(self.check([[5]], modulus), [gcd(5, modulus)])
            self.assertEqual(self.check([[0]], modulus), [modulus])
            self.assertEqual(self.check([[-4, 6, 10]], modulus), [gcd(2, modulus)])
            self.assertEqual(self.check([[12], [-18], [0]], modulus), [gcd(6, modulus)])
            self.assertEqual(self.check([[0, 0, 0]], modulus), [modulus])
            self.check([[BIG * x for x in range(32)]], modulus)
            self.check([[x - 16] for x in range(32)], modulus)

    def test_small_tables_against_minors(self):
        random = Random(1)
        for height, width in ((1, 1), (2, 2), (2, 3), (3, 2), (3, 3), (4, 4), (4, 2), (3, 5)):
            for limit in (1, 3, 12, 10**6):
                table = some_table(random, height, width, limit)
                found = divisors_by_minors(table)
                found += [0] * (min(height, width) - len(found))
                for modulus in MODULI:
                    expected = [gcd(divisor, modulus) for divisor in found]
                    self.assertEqual(self.check(table, modulus), expected)

    def test_hidden_divisors(self):
        random = Random(2)
        for diagonal, height, width in [
            ([1, 2, 4, 8], 4, 4),
            ([2, 6, 12, 0], 4, 6),
            ([1, 1, 3, 9, 27, 0], 7, 6),
            ([6, 6, 6, 30, 210, 2310], 6, 6),
            ([4] * 5, 9, 5),
        ]:
            table = hidden(random, diagonal, height, width)
            for modulus in MODULI:
                expected = [gcd(divisor, modulus) for divisor in diagonal]
                self.assertEqual(self.check(table, modulus), expected)

    def test_large_tables(self):
        random = Random(3)
        for height, width in ((32, 32), (32, 5), (3, 32)):
            for modulus in (1, 2, 64, 720720, 10**13, 10**13 - 1, 2 * 3**26):
                table = some_table(random, height, width, 10**6)
                self.check(table, modulus)
                table = [[entry * BIG for entry in row] for row in table]
                self.check(table, modulus)
        self.assertEqual(self.check([[0] * 32 for _ in range(32)], 60), [60] * 32)
        self.assertEqual(self.check(identity(32), 60), [1] * 32)
        table = [[6 * int(i == j) for j in range(32)] for i in range(32)]
        self.assertEqual(self.check(table, 60), [6] * 32)

    def test_entries_with_common_divisors(self):
        # No entry divides the others, so rows have to be added to each other.
        self.assertEqual(self.check([[6, 0, 0], [0, 10, 0], [0, 0, 15]], 30), [1, 30, 30])
        self.assertEqual(self.check([[6, 10], [10, 15]], 30), [1, 10])
        self.assertEqual(self.check([[4, 6], [6, 9]], 36), [1, 36])

    def test_modulus_one(self):
        form = diagonal_form([[5, -3], [BIG, 1], [0, 0]], modulus=1)
        self.assertEqual(form.divisors, [1, 1])
        self.assertEqual(form.left, [[0] * 3] * 3)
        self.assertEqual(form.right_inverse, [[0] * 2] * 2)

    def test_wrong_moduli(self):
        for modulus in (0, -1, -12, -(10**5000)):
            self.refused(InvalidModulus, diagonal_form, [[1, 2], [3, 4]], modulus=modulus)
            self.refused(InvalidModulus, diagonal_form, [[0]], modulus=modulus)

    def test_the_lists_are_new(self):
        table = [[1, 2], [3, 4]]
        form = diagonal_form(table, modulus=10)
        for rows in (form.left, form.right, form.left_inverse, form.right_inverse):
            rows[0].clear()
        self.assertEqual(table, [[1, 2], [3, 4]])
        self.assertEqual(self.check(table, 10), [1, 2])


class DivisorsTest(unittest.TestCase):
    def check(self, table):
        kept = [list(row) for row in table]
        found = divisors(table)
        self.assertEqual(table, kept)
        self.assertIsInstance(found, list)
        for before, divisor in zip([1, *found], found):
            self.assertEqual(divisor % before, 0)
        return found

    def test_against_minors(self):
        random = Random(4)
        for height, width in ((1, 1), (1, 5), (5, 1), (2, 2), (3, 3), (3, 4), (4, 3), (4, 4)):
            for limit in (1, 2, 10, 999999):
                for _ in range(4):
                    table = some_table(random, height, width, limit)
                    self.assertEqual(self.check(table), divisors_by_minors(table))

    def test_rank_zero(self):
        for height, width in ((1, 1), (1, 12), (12, 1), (12, 12), (2, 3)):
            self.assertEqual(self.check([[0] * width for _ in range(height)]), [])

    def test_known_tables(self):
        self.assertEqual(self.check([[2, 0], [0, 3]]), [1, 6])
        self.assertEqual(self.check([[2, 4], [4, 8]]), [2])
        self.assertEqual(self.check([[0, 0], [0, -7]]), [7])
        self.assertEqual(self.check([[-999999]]), [999999])
        self.assertEqual(self.check([[6, 10, 15]]), [1])
        self.assertEqual(self.check(identity(12)), [1] * 12)

    def test_hidden_divisors(self):
        random = Random(5)
        for diagonal, height, width in [
            ([1, 2, 4, 8], 12, 12),
            ([3, 3, 6, 12, 24, 120, 360], 9, 8),
            ([5] * 4, 4, 12),
        ]:
            self.assertEqual(self.check(hidden(random, diagonal, height, width)), diagonal)

    def test_full_rank_with_large_entries(self):
        random = Random(6)
        for limit in (9, 999999):
            table = some_table(random, 12, 12, limit)
            found = self.check(table)
            whole = 1
            for divisor in found:
                whole *= divisor
            self.assertEqual((len(found), whole), (12, abs(determinant(table))))
            # A row that depends on the others takes one from the rank.
            table[3] = [a - b for a, b in zip(table[0], table[1])]
            self.assertEqual(len(self.check(table)), 11)


class DivisorRowTest(RaisesTest):
    def test_the_examples(self):
        group = cyclic(4)
        self.assertEqual(divisor_row(group, 0), [])
        self.assertEqual(divisor_row(group, 1), [4])
        self.assertEqual(divisor_row(group, 2), [2, 8])

    def test_shape(self):
        for table in (*SMALL.values(), *LARGE.values()):
            group = Group(table)
            for bound in range(9):
                row = divisor_row(group, bound)
                self.assertIsInstance(row, list)
                for before, divisor in zip([1, *row], row):
                    self.assertGreater(divisor, 1)
                    self.assertEqual(divisor % before, 0)
                if bound == 0:
                    self.assertEqual(row, [])

    def test_cosets_of_the_power_lattices(self):
        for table in (*SMALL.values(), *LARGE.values()):
            group = Group(table)
            for bound in (1, 2, 3, 8):
                row = divisor_row(group, bound)
                for modulus in (1, 2, 3, 4, 12, 32, 10**6):
                    expected = modulus
                    for divisor in row:
                        expected *= gcd(divisor, modulus)
                    lattice = power_lattice(group, bound + 1, modulus)
                    self.assertEqual(lattice.coset_count(), expected)

    def test_numbers_of_maps(self):
        for name, moduli in CASES:
            group, target = case_objects(name, moduli)
            for bound in range(4):
                expected = target.order
                for divisor in divisor_row(group, bound):
                    for modulus in moduli:
                        expected *= gcd(divisor, modulus)
                self.assertEqual(len(listed_images(name, moduli, bound)), expected)

    def test_diagonal_forms_of_the_power_lattices(self):
        for name in ("one", "three", "four", "klein", "symmetric", "quaternion", "nine"):
            group = Group(SMALL[name])
            for bound in (1, 2, 3):
                modulus = group.order**bound
                rows = power_lattice(group, bound + 1, modulus).rows
                form = diagonal_form([list(row) for row in rows], modulus=modulus)
                row = divisor_row(group, bound)
                ones = [1] * (group.order - 1 - len(row))
                self.assertEqual(form.divisors, [*ones, *row, modulus])

    def test_the_bound_one_and_the_commutators(self):
        for table in (*SMALL.values(), *LARGE.values()):
            group = Group(table)
            smaller, _ = quotient(group, commutator_subgroup(group))
            row = divisor_row(group, 1)
            for m in (1, 2, 3, 4, 6, 8, 12, 16):
                expected = 1
                for divisor in row:
                    expected *= gcd(divisor, m)
                found = [x for x in range(smaller.order) if smaller.power(x, m) == 0]
                self.assertEqual(len(found), expected)

    def test_classes_of_a_small_group(self):
        # The classes of sums over the integers, counted by a plain lattice.
        table = cyclic_table(4)
        lattice = power_lattice(Group(table), 3, 4**4)
        inner = Lattice([[-1, 1, 0, 0], [-1, 0, 1, 0], [-1, 0, 0, 1]], 4, 4**4)
        self.assertEqual(lattice.coset_count() // inner.coset_count(), 2 * 8)

    def test_group_of_order_one(self):
        for bound in range(9):
            self.assertEqual(divisor_row(Group([[0]]), bound), [])


if __name__ == "__main__":
    unittest.main()
