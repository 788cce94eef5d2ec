import unittest
from itertools import combinations, islice, product
from math import gcd

from samples import HUGE, LARGE, SMALL, RaisesTest, case_objects, listed_images, numbered_map, values_of
from stepsvanish.degrees import degree
from stepsvanish.errors import InvalidPairing, InvalidValue, Mismatch
from stepsvanish.maps import GroupMap
from stepsvanish.pairings import Pairing, all_pairings, number_of_pairings
from stepsvanish.pairings import product as product_of
from stepsvanish.targets import Target

# Moduli of the left target, of the right target and of the result.
TRIPLES = [
    ((), (), ()),
    ((), (2,), (3,)),
    ((4,), (), (2, 2)),
    ((), (), (5,)),
    ((2, 3), (4,), ()),
    ((2,), (2,), (2,)),
    ((4,), (2,), (4,)),
    ((2,), (4,), (8,)),
    ((4,), (6,), (12,)),
    ((9,), (27,), (27,)),
    ((6,), (10,), (15,)),
    ((3,), (5,), (15,)),
    ((4,), (2, 6), (2,)),
    ((2, 6), (4,), (4,)),
    ((2, 2), (2, 2), (2,)),
    ((2,), (2,), (2, 4)),
    ((2, 3), (6,), (6,)),
]

MANY = ((2, 2, 2, 2, 2), (2, 2, 2, 2, 2), (2, 2, 2, 2, 2))

EXAMPLE = ([4], [2, 6], [2], [[(0,), (1,)]])


def targets_of(triple):
    return [Target(list(moduli)) for moduli in triple]


def all_tables(triple):
    """All tables of the right shape whose entries are values of the result."""
    left, right, result = triple
    for entries in product(values_of(result), repeat=len(left) * len(right)):
        yield [list(entries[i * len(right) : (i + 1) * len(right)]) for i in range(len(left))]


def is_right(triple, table):
    left, right, result = triple
    return all(
        m * part % k == 0 and n * part % k == 0
        for m, row in zip(left, table)
        for n, entry in zip(right, row)
        for part, k in zip(entry, result)
    )


def right_tables(triple):
    return [table for table in all_tables(triple) if is_right(triple, table)]


def assigned(triple, table, v, w):
    return tuple(
        sum(v[i] * w[j] * table[i][j][at] for i in range(len(v)) for j in range(len(w))) % k
        for at, k in enumerate(triple[2])
    )


def made(triple, table):
    return Pairing(*targets_of(triple), table)


def example():
    left, right, result, table = EXAMPLE
    return Pairing(Target(left), Target(right), Target(result), table)


class PairingTest(RaisesTest):
    def test_every_table(self):
        for triple in TRIPLES:
            for table in all_tables(triple):
                if is_right(triple, table):
                    kept = [list(row) for row in table]
                    pairing = made(triple, table)
                    self.assertEqual(table, kept)
                    self.assertEqual(pairing.table, tuple(tuple(row) for row in table))
                    self.assertEqual(pairing.left.moduli, triple[0])
                    self.assertEqual(pairing.right.moduli, triple[1])
                    self.assertEqual(pairing.result.moduli, triple[2])
                else:
                    self.refused(InvalidPairing, made, triple, table)

    def test_numbers_of_rows_and_entries(self):
        for triple in TRIPLES:
            left, right, result = triple
            zero = (0,) * len(result)
            for rows, columns in product(range(4), repeat=2):
                table = [[zero] * columns for _ in range(rows)]
                if rows == len(left) and (columns == len(right) or rows == 0):
                    made(triple, table)
                else:
                    self.refused(InvalidPairing, made, triple, table)
        triple = ((2, 2), (2, 2), (2,))
        self.refused(InvalidPairing, made, triple, [[(0,), (0,)], [(0,)]])
        self.refused(InvalidPairing, made, triple, [[(0,)], [(0,), (0,)]])
        self.refused(InvalidPairing, made, triple, [[(0,), (0,)], [(0,), (0,), (0,)]])

    def test_entries_that_are_no_values(self):
        for at in (0, 1):
            for wrong in ((), (-1,), (2,), (0, 0), (10**5000,), (-(10**5000),)):
                row = [(0,), (0,)]
                row[at] = wrong
                self.refused(InvalidPairing, made, ((2,), (2, 2), (2,)), [row])
                self.refused(InvalidPairing, made, ((2, 2), (2,), (2,)), [[entry] for entry in row])
        self.refused(InvalidPairing, made, ((2,), (2,), ()), [[(0,)]])

    def test_entries_that_a_modulus_does_not_bring_to_zero(self):
        self.refused(InvalidPairing, made, ((2,), (4,), (4,)), [[(1,)]])
        self.refused(InvalidPairing, made, ((4,), (2,), (4,)), [[(1,)]])
        self.refused(InvalidPairing, made, ((4,), (4, 3), (4,)), [[(1,), (1,)]])
        self.refused(InvalidPairing, made, ((3, 4), (4,), (4,)), [[(2,)], [(1,)]])
        self.refused(InvalidPairing, made, ((2,), (2,), (2, 3)), [[(1, 1)]])
        made(((4,), (4, 2), (4,)), [[(1,), (2,)]])

    def test_the_table_is_kept(self):
        table = [[(0,), (1,)]]
        pairing = made(((4,), (2, 6), (2,)), table)
        table[0][1] = (0,)
        table.append([])
        self.assertEqual(pairing.table, (((0,), (1,)),))


class CallTest(RaisesTest):
    def test_all_values(self):
        for triple in TRIPLES:
            for table in right_tables(triple)[:20]:
                pairing = made(triple, table)
                for v, w in product(values_of(triple[0]), values_of(triple[1])):
                    self.assertEqual(pairing(v, w), assigned(triple, table, v, w))

    def test_additive_in_both_arguments(self):
        for triple in (((4,), (2, 6), (2,)), ((2, 6), (4,), (4,)), ((9,), (27,), (27,))):
            left, right, result = targets_of(triple)
            for table in right_tables(triple)[-3:]:
                pairing = made(triple, table)
                for v, w in product(left.all_values(), right.all_values()):
                    for more in left.all_values():
                        expected = result.plus(pairing(v, w), pairing(more, w))
                        self.assertEqual(pairing(left.plus(v, more), w), expected)
                    for more in right.all_values()[:9]:
                        expected = result.plus(pairing(v, w), pairing(v, more))
                        self.assertEqual(pairing(v, right.plus(w, more)), expected)

    def test_the_example(self):
        self.assertEqual(example()((3,), (1, 5)), (1,))

    def test_no_moduli(self):
        pairing = made(((), (3,), (4, 2)), [])
        self.assertEqual([pairing((), (w,)) for w in range(3)], [(0, 0)] * 3)
        pairing = made(((3,), (), (4, 2)), [[]])
        self.assertEqual([pairing((v,), ()) for v in range(3)], [(0, 0)] * 3)
        self.assertEqual(made(((3,), (3,), ()), [[()]])((1,), (2,)), ())
        self.assertEqual(made(((), (), ()), [])((), ()), ())

    def test_wrong_values(self):
        pairing = example()
        for wrong in ((), (4,), (-1,), (0, 0), (10**5000,)):
            for w in ((1, 5), (2, 0), ()):
                self.refused(InvalidValue, pairing, wrong, w)
        for wrong in ((), (1,), (2, 0), (0, 6), (-1, 0), (0, -1), (0, 0, 0), (0, 10**5000)):
            self.refused(InvalidValue, pairing, (3,), wrong)
        for pairing in (made(((), (3,), (4,)), []), made(((3,), (), (4,)), [[]])):
            self.refused(InvalidValue, pairing, (0,), (0,))
            self.refused(InvalidValue, pairing, (), ())


class ByPartsTest(RaisesTest):
    def test_products_of_parts(self):
        for moduli in ((), (2,), (7,), (32,), (2, 3), (4, 4), (2, 4, 3)):
            target = Target(list(moduli))
            pairing = Pairing.by_parts(target)
            self.assertIs(pairing.__class__, Pairing)
            for side in (pairing.left, pairing.right, pairing.result):
                self.assertTrue(side == target)
            for v, w in product(target.all_values(), repeat=2):
                expected = tuple(a * b % m for a, b, m in zip(v, w, moduli))
                self.assertEqual(pairing(v, w), expected)

    def test_known_tables(self):
        self.assertEqual(Pairing.by_parts(Target([])).table, ())
        self.assertEqual(Pairing.by_parts(Target([5])).table, (((1,),),))
        self.assertEqual(Pairing.by_parts(Target([2, 3])).table, (((1, 0), (0, 0)), ((0, 0), (0, 1))))


class ArithmeticTest(RaisesTest):
    def test_sums(self):
        for triple in TRIPLES:
            tables = right_tables(triple)
            for first, second in product(tables[:6], tables[-6:]):
                p, q = made(triple, first), made(triple, second)
                kept = (p.table, q.table)
                found = p + q
                for v, w in product(values_of(triple[0]), values_of(triple[1])):
                    self.assertEqual(found(v, w), p.result.plus(p(v, w), q(v, w)))
                self.assertEqual((p.table, q.table), kept)
                self.assertTrue(found == q + p)

    def test_multiples(self):
        for triple in TRIPLES:
            for table in right_tables(triple)[-6:]:
                p = made(triple, table)
                for factor in (0, 1, 2, -1, -5, 7, HUGE, -HUGE, 10**5000 + 1, -(10**5000) - 3):
                    expected = [[p.result.times(factor, entry) for entry in row] for row in table]
                    expected = made(triple, expected)
                    self.assertTrue(p * factor == expected)
                    self.assertTrue(factor * p == expected)
                    self.assertIs((factor * p).__class__, Pairing)
                self.assertTrue(-p == p * -1)
                self.assertTrue(-p + p == p * 0)

    def test_equality(self):
        same = example()
        self.assertTrue(same == example())
        self.assertFalse(same != example())
        others = [
            made(((8,), (2, 6), (2,)), [[(0,), (1,)]]),
            made(((4,), (2, 2), (2,)), [[(0,), (1,)]]),
            made(((4,), (2, 6), (4,)), [[(0,), (0,)]]),
            made(((4,), (2, 6), (2,)), [[(1,), (0,)]]),
            made(((), (2,), (3,)), []),
            made(((), (4,), (3,)), []),
            made(((), (2,), (5,)), []),
        ]
        for p, q in combinations([same, *others], 2):
            self.assertFalse(p == q)
            self.assertTrue(p != q)
        for other in (EXAMPLE, None, 0, (), Target([4]), numbered_map(SMALL["two"], (4,), 1)):
            self.assertFalse(same == other)
            self.assertTrue(same != other)

    def test_equal_tables_of_different_targets(self):
        zero = [[(0,)]]
        base = made(((2,), (2,), (2,)), zero)
        for triple in (((4,), (2,), (2,)), ((2,), (4,), (2,)), ((2,), (2,), (4,))):
            other = made(triple, zero)
            self.assertFalse(base == other)
            with self.assertRaises(Mismatch):
                base + other
            with self.assertRaises(Mismatch):
                other + base

    def test_flipped(self):
        for triple in TRIPLES:
            left, right, result = triple
            for table in right_tables(triple)[-6:]:
                p = made(triple, table)
                q = p.flipped()
                self.assertEqual((q.left.moduli, q.right.moduli), (right, left))
                self.assertEqual(q.result.moduli, result)
                for v, w in product(values_of(left), values_of(right)):
                    self.assertEqual(q(w, v), p(v, w))
                self.assertTrue(q.flipped() == p)


class ListTest(RaisesTest):
    def test_against_all_tables(self):
        for triple in TRIPLES:
            expected = [tuple(tuple(row) for row in table) for table in right_tables(triple)]
            found = list(all_pairings(*targets_of(triple)))
            self.assertEqual([p.table for p in found], sorted(expected))
            self.assertEqual(number_of_pairings(*targets_of(triple)), len(expected))
            for p in found:
                self.assertIs(p.__class__, Pairing)
                self.assertEqual([p.left.moduli, p.right.moduli, p.result.moduli], list(triple))

    def test_no_moduli(self):
        for triple in product(((), (2,), (4, 2)), repeat=3):
            if () in triple:
                self.assertEqual(number_of_pairings(*targets_of(triple)), 1)
                self.assertEqual(len(list(all_pairings(*targets_of(triple)))), 1)

    def test_numbers(self):
        for triple in product(((32,), (2, 6), (12, 2), (5,), (2, 2, 2, 2)), repeat=3):
            expected = 1
            for m, n, k in product(*triple):
                expected *= gcd(gcd(m, n), k)
            self.assertEqual(number_of_pairings(*targets_of(triple)), expected)

    def test_very_many(self):
        targets = targets_of(MANY)
        self.assertEqual(number_of_pairings(*targets), 2**125)
        found = [p.table for p in islice(all_pairings(*targets), 40)]
        for number, table in enumerate(found):
            parts = [part for row in table for entry in row for part in entry]
            self.assertEqual(int("".join(str(part) for part in parts), 2), number)

    def test_first_ones_of_several_generators(self):
        first, second = (all_pairings(Target([4]), Target([4]), Target([4])) for _ in range(2))
        self.assertEqual(next(first).table, (((0,),),))
        self.assertEqual(next(first).table, (((1,),),))
        self.assertEqual(next(second).table, (((0,),),))


class ProductTest(RaisesTest):
    def test_values(self):
        for table in (*SMALL.values(), LARGE["four points"]):
            for triple in TRIPLES:
                pairing = made(triple, right_tables(triple)[-1])
                f = numbered_map(table, triple[0], 1)
                g = numbered_map(table, triple[1], 2)
                found = product_of(f, g, pairing)
                self.assertIs(found.__class__, GroupMap)
                self.assertTrue(found.group == f.group and found.target == pairing.result)
                expected = [pairing(f(x), g(x)) for x in range(len(table))]
                self.assertEqual(list(found), expected)

    def test_degrees(self):
        cases = [
            ("four", (4,), (2,), (4,)),
            ("klein", (2,), (2, 2), (2,)),
            ("three", (3,), (9,), (9,)),
            ("symmetric", (2,), (2,), (2,)),
            ("quaternion", (2,), (2,), (2,)),
        ]
        for name, left, right, result in cases:
            group, target = case_objects(name, left)
            pairing = made((left, right, result), right_tables((left, right, result))[-1])
            firsts = [GroupMap(group, target, list(f)) for f in listed_images(name, left, HUGE)]
            seconds = list(all_maps_of_degree(group, right))
            for f, g in product(firsts[::7], seconds[::9]):
                found = degree(product_of(f, g, pairing))
                self.assertIsNotNone(found)
                self.assertLessEqual(found, max(0, degree(f)) + max(0, degree(g)))

    def test_mismatches(self):
        pairing = example()
        f = numbered_map(SMALL["four"], (4,), 1)
        g = numbered_map(SMALL["four"], (2, 6), 1)
        product_of(f, g, pairing)
        self.refused(Mismatch, product_of, numbered_map(SMALL["klein"], (4,), 1), g, pairing)
        self.refused(Mismatch, product_of, f, numbered_map(SMALL["klein"], (2, 6), 1), pairing)
        for moduli in ((), (2,), (8,), (4, 2), (2, 6)):
            self.refused(Mismatch, product_of, numbered_map(SMALL["four"], moduli, 1), g, pairing)
        for moduli in ((), (4,), (6, 2), (2, 3)):
            self.refused(Mismatch, product_of, f, numbered_map(SMALL["four"], moduli, 1), pairing)
        self.refused(Mismatch, product_of, g, f, pairing)
        product_of(g, f, pairing.flipped())


def all_maps_of_degree(group, moduli):
    target = Target(list(moduli))
    for images in product(target.all_values(), repeat=group.order):
        f = GroupMap(group, target, list(images))
        if degree(f) is not None:
            yield f


if __name__ == "__main__":
    unittest.main()
