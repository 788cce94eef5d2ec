import unittest
from itertools import product

from samples import (
    CASES,
    LARGE,
    NO_PRIMES,
    SMALL,
    RaisesTest,
    case_objects,
    closed,
    cyclic_table,
    degrees_of_case,
    numbered_map,
)
from stepsvanish.building import cyclic, quotient
from stepsvanish.degrees import degree
from stepsvanish.errors import InvalidModulus, Mismatch, NoDegree
from stepsvanish.groups import Group
from stepsvanish.growth import growth
from stepsvanish.maps import GroupMap
from stepsvanish.residuals import (
    all_have_degree,
    assembled,
    blocks,
    has_degree,
    number_having_degree,
    obstruction,
    prime_part,
    residual,
    split,
)
from stepsvanish.subgroups import is_normal
from stepsvanish.targets import Target

FAR_PRIMES = (101, 65537, 999979, 999983)
TABLES = (*SMALL.values(), *LARGE.values())


def order_of(table, x):
    count, power = 1, x
    while power:
        power, count = table[power][x], count + 1
    return count


def primes_of(number):
    return [p for p in range(2, number + 1) if number % p == 0 and all(p % q for q in range(2, p))]


def free_of(table, prime):
    return [x for x in range(len(table)) if order_of(table, x) % prime]


class ResidualTest(RaisesTest):
    def test_all_groups(self):
        for table in TABLES:
            group = Group(table)
            for prime in (2, 3, 5, 31, *FAR_PRIMES):
                found = residual(group, prime)
                self.assertIsInstance(found, list)
                self.assertEqual(found, closed(table, free_of(table, prime)))
                self.assertTrue(is_normal(group, found))
                index = len(table) // len(found)
                while index % prime == 0:
                    index //= prime
                self.assertEqual(index, 1)

    def test_known_residuals(self):
        for name, prime, expected in [
            ("six", 2, [0, 2, 4]),
            ("six", 3, [0, 3]),
            ("eight", 2, [0]),
            ("eight", 3, list(range(8))),
            ("symmetric", 3, list(range(6))),
            ("one", 2, [0]),
            ("one", 999983, [0]),
        ]:
            self.assertEqual(residual(Group(SMALL[name]), prime), expected)
        self.assertEqual(len(residual(Group(SMALL["symmetric"]), 2)), 3)
        self.assertEqual(len(residual(Group(SMALL["alternating"]), 3)), 4)
        self.assertEqual(len(residual(Group(LARGE["four points"]), 2)), 12)

    def test_integers_that_are_no_primes(self):
        group = Group(SMALL["six"])
        for prime in NO_PRIMES:
            self.refused(InvalidModulus, residual, group, prime)
            self.refused(InvalidModulus, residual, Group([[0]]), prime)


class PrimePartTest(RaisesTest):
    def test_parts_add_up(self):
        for moduli in ((), (2,), (4,), (6,), (12, 2), (30,), (9, 3), (2, 3, 5), (31,), (8, 3)):
            f = numbered_map(SMALL["symmetric"], moduli, 1)
            kept = f.images
            total = f * 0
            for prime in primes_of(f.target.order):
                part = prime_part(f, prime)
                self.assertIs(part.__class__, GroupMap)
                self.assertTrue(part.group == f.group and part.target == f.target)
                power = prime**5
                self.assertTrue((part * power).is_zero())
                total = total + part
            self.assertTrue(total == f)
            self.assertEqual(f.images, kept)

    def test_all_values(self):
        for moduli in ((6,), (12,), (2, 6), (4, 3)):
            target = Target(list(moduli))
            for prime in primes_of(target.order):
                for value in target.all_values():
                    f = GroupMap(Group([[0]]), target, [value])
                    part = prime_part(f, prime)(0)
                    found = [w for w in target.all_values() if self.is_part(target, prime, value, w)]
                    self.assertEqual(found, [part])

    def is_part(self, target, prime, value, part):
        """A power of the prime makes the part zero, and another factor the rest."""
        rest = target.minus(value, part)
        others = [k for k in range(1, 33) if k % prime]
        return target.times(prime**5, part) == target.zero and any(
            target.times(k, rest) == target.zero for k in others
        )

    def test_known_parts(self):
        f = GroupMap.from_parts(cyclic(6), Target([6]), [list(range(6))])
        self.assertEqual(prime_part(f, 2).part(0), [0, 3, 0, 3, 0, 3])
        self.assertEqual(prime_part(f, 3).part(0), [0, 4, 2, 0, 4, 2])
        f = GroupMap.from_parts(cyclic(2), Target([12, 2]), [[1, 7], [1, 0]])
        self.assertEqual(prime_part(f, 2).images, ((9, 1), (3, 0)))
        self.assertEqual(prime_part(f, 3).images, ((4, 0), (4, 0)))

    def test_primes_that_do_not_divide(self):
        f = numbered_map(SMALL["symmetric"], (4, 3), 1)
        for prime in (5, 31, *FAR_PRIMES):
            self.assertTrue(prime_part(f, prime).is_zero())
        self.assertTrue(prime_part(numbered_map(SMALL["six"], (), 1), 2).is_zero())

    def test_integers_that_are_no_primes(self):
        for moduli in ((), (4, 3)):
            f = numbered_map(SMALL["symmetric"], moduli, 1)
            for prime in NO_PRIMES:
                self.refused(InvalidModulus, prime_part, f, prime)


class ObstructionTest(unittest.TestCase):
    def first_obstruction(self, f):
        table = f.group.rows
        for prime in primes_of(f.target.order):
            part = prime_part(f, prime)
            for x in range(len(table)):
                for h in free_of(table, prime):
                    if part(table[x][h]) != part(x):
                        return (prime, x, h)
        return None

    def test_small_cases(self):
        for name, moduli in CASES:
            group, target = case_objects(name, moduli)
            for images, expected in list(degrees_of_case(name, moduli).items())[::3]:
                f = GroupMap(group, target, list(images))
                self.assertIs(has_degree(f), expected is not None)
                found = obstruction(f)
                self.assertEqual(found, self.first_obstruction(f))
                self.assertEqual(found is None, expected is not None)

    def test_large_groups(self):
        for table in LARGE.values():
            for moduli in ((), (2,), (3,), (6,), (4, 3), (31,)):
                f = numbered_map(table, moduli, 1)
                self.assertIs(has_degree(f), degree(f) is not None)
                self.assertEqual(obstruction(f), self.first_obstruction(f))

    def test_known_obstructions(self):
        f = GroupMap.from_parts(cyclic(3), Target([2]), [[0, 0, 1]])
        self.assertEqual(obstruction(f), (2, 0, 2))
        f = GroupMap.from_parts(cyclic(3), Target([3, 2]), [[0, 2, 1], [1, 1, 1]])
        self.assertIsNone(obstruction(f))
        f = GroupMap.from_parts(cyclic(6), Target([6]), [[0, 0, 0, 2, 0, 0]])
        self.assertEqual(obstruction(f), (3, 0, 3))
        f = GroupMap.from_parts(cyclic(6), Target([6]), [[0, 0, 0, 1, 0, 0]])
        self.assertEqual(obstruction(f), (2, 1, 2))
        self.assertIsInstance(obstruction(f), tuple)


class NumberTest(unittest.TestCase):
    def test_small_cases(self):
        for name, moduli in CASES:
            group, target = case_objects(name, moduli)
            found = degrees_of_case(name, moduli).values()
            self.assertIs(all_have_degree(group, target), None not in found)
            number = sum(1 for d in found if d is not None)
            self.assertEqual(number_having_degree(group, target), number)

    def test_large_groups(self):
        for table in TABLES:
            group = Group(table)
            for moduli in ([], [2], [3], [6], [4, 8], [2, 9], [31]):
                target = Target(moduli)
                number = growth(group, target)[-1]
                self.assertEqual(number_having_degree(group, target), number)
                everything = number == target.order**group.order
                self.assertIs(all_have_degree(group, target), everything)

    def test_no_moduli(self):
        for table in TABLES:
            self.assertIs(all_have_degree(Group(table), Target([])), True)
            self.assertEqual(number_having_degree(Group(table), Target([])), 1)


class BlocksTest(unittest.TestCase):
    def test_small_cases(self):
        for name, moduli in CASES:
            group, target = case_objects(name, moduli)
            maps = [f for f, d in degrees_of_case(name, moduli).items() if d is not None]
            expected = {}
            for x in range(group.order):
                expected.setdefault(tuple(f[x] for f in maps), []).append(x)
            found = blocks(group, target)
            self.assertIsInstance(found, list)
            self.assertEqual(found, list(expected.values()))

    def test_known_blocks(self):
        group = cyclic(6)
        self.assertEqual(blocks(group, Target([2])), [[0, 2, 4], [1, 3, 5]])
        self.assertEqual(blocks(group, Target([9])), [[0, 3], [1, 4], [2, 5]])
        self.assertEqual(blocks(group, Target([2, 3])), [[x] for x in range(6)])
        self.assertEqual(blocks(group, Target([5])), [list(range(6))])
        self.assertEqual(blocks(group, Target([])), [list(range(6))])
        self.assertEqual(blocks(Group([[0]]), Target([])), [[0]])

    def test_the_lists_are_new(self):
        group, target = cyclic(4), Target([2])
        blocks(group, target)[0].clear()
        self.assertEqual(blocks(group, target), [[0], [1], [2], [3]])


class SplitTest(RaisesTest):
    def check(self, f):
        found = split(f)
        self.assertIsInstance(found, list)
        self.assertEqual([prime for prime, _ in found], primes_of(f.target.order))
        for prime, piece in found:
            smaller, projection = quotient(f.group, residual(f.group, prime))
            self.assertTrue(piece.group == smaller and piece.target == f.target)
            part = prime_part(f, prime)
            for x in range(f.group.order):
                self.assertEqual(part(x), piece(projection[x]))
        self.assertTrue(assembled(f.group, f.target, found) == f)
        degrees = [degree(piece) for _, piece in found]
        self.assertEqual(degree(f), max(degrees, default=-1))

    def test_small_cases(self):
        for name, moduli in CASES:
            group, target = case_objects(name, moduli)
            for images, d in list(degrees_of_case(name, moduli).items())[::7]:
                f = GroupMap(group, target, list(images))
                if d is None:
                    self.refused(NoDegree, split, f)
                else:
                    self.check(f)

    def test_the_example(self):
        f = GroupMap.from_parts(cyclic(6), Target([6]), [list(range(6))])
        found = split(f)
        self.assertEqual([prime for prime, _ in found], [2, 3])
        self.assertEqual(found[0][1].images, ((0,), (3,)))
        self.assertEqual(found[1][1].images, ((0,), (4,), (2,)))
        self.check(f)

    def test_no_primes(self):
        self.assertEqual(split(numbered_map(SMALL["symmetric"], (), 1)), [])

    def test_primes_that_do_not_divide_the_order(self):
        f = GroupMap.constant(Group(SMALL["symmetric"]), Target([5, 2]), (3, 1))
        found = split(f)
        self.assertEqual([piece.group.order for _, piece in found], [2, 1])
        self.check(f)


class AssembledTest(RaisesTest):
    def test_sums_of_any_pieces(self):
        for name, moduli in [("six", (6,)), ("symmetric", (4, 3)), ("alternating", (5,)), ("one", (2,))]:
            group, target = Group(SMALL[name]), Target(list(moduli))
            for primes in ([], [2], [3, 3], [2, 3, 2], [7, 2], [999983]):
                pieces, expected = [], [target.zero] * group.order
                for salt, prime in enumerate(primes):
                    smaller, projection = quotient(group, residual(group, prime))
                    piece = numbered_map(smaller.rows, moduli, salt)
                    pieces.append((prime, piece))
                    for x in range(group.order):
                        expected[x] = target.plus(expected[x], piece(projection[x]))
                kept = list(pieces)
                result = assembled(group, target, pieces)
                self.assertIs(result.__class__, GroupMap)
                self.assertTrue(result.group == group and result.target == target)
                self.assertEqual(result.images, tuple(expected))
                self.assertEqual(len(pieces), len(kept))

    def test_the_empty_list(self):
        for moduli in ([], [4, 3]):
            self.assertTrue(assembled(cyclic(6), Target(moduli), []).is_zero())

    def test_errors(self):
        group, target = cyclic(6), Target([6])
        right = GroupMap.constant(cyclic(2), target, (1,))
        other_target = GroupMap.constant(cyclic(2), Target([4]), (1,))
        other_group = GroupMap.constant(cyclic(3), target, (1,))
        self.assertEqual(assembled(group, target, [(2, right)]).images, ((1,),) * 6)
        for wrong in (other_target, other_group, GroupMap.constant(group, target, (1,))):
            for pieces in ([(2, wrong)], [(2, right), (2, wrong)], [(2, wrong), (2, right)]):
                self.refused(Mismatch, assembled, group, target, pieces)
            # A piece belongs to the quotient by the residual for its own prime.
            self.refused(Mismatch, assembled, group, target, [(5, wrong)])
            for prime in NO_PRIMES:
                for pieces in ([(prime, wrong)], [(2, wrong), (prime, right)], [(prime, right)]):
                    self.refused(InvalidModulus, assembled, group, target, pieces)
        self.refused(Mismatch, assembled, group, target, [(3, right)])
        klein = Group(SMALL["klein"])
        piece = GroupMap.constant(cyclic(4), target, (1,))
        self.refused(Mismatch, assembled, klein, target, [(2, piece)])


if __name__ == "__main__":
    unittest.main()
