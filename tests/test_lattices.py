import unittest
from itertools import product

from samples import RaisesTest
from stepsvanish.errors import (
    InvalidIndex,
    InvalidModulus,
    InvalidVector,
    Mismatch,
)
from stepsvanish.lattices import Lattice

BIG = 10**60

CASES = [
    ([], 1, 1),
    ([], 1, 7),
    ([], 3, 4),
    ([[1]], 1, 9),
    ([[6]], 1, 9),
    ([[0, 0]], 2, 5),
    ([[2, 3]], 2, 6),
    ([[4, 2], [2, 4]], 2, 12),
    ([[1, 2, 3], [-3, 4, -5]], 3, 6),
    ([[2, 0, 4], [0, 3, 3], [6, 6, 2]], 3, 8),
    ([[-1, -1, -1]], 3, 4),
    ([[5, 7, 9], [BIG, BIG + 1, -BIG]], 3, 10),
    ([[1, 1, 1], [1, 1, 1], [1, 1, 1]], 3, 3),
    ([[3, 1, 2, 5], [0, 2, 2, 4]], 4, 6),
    ([[1, 2, 3], [4, 5, 6]], 3, 1),
    ([[2, 2, 3, 1], [1, 0, 0, 2], [3, 3, 0, 3]], 4, 4),
]


def residues(vectors, width, modulus):
    """The members of the lattice with entries from 0 to the modulus minus 1."""
    found = {(0,) * width}
    for vector in vectors:
        multiples = [tuple(k * entry % modulus for entry in vector) for k in range(modulus)]
        found = {
            tuple((a + b) % modulus for a, b in zip(old, more))
            for old in found
            for more in multiples
        }
    return found


class RowsTest(RaisesTest):
    def check_rows(self, lattice, members, modulus):
        """The conditions of point 14, against all members below the modulus."""
        width = lattice.width
        self.assertEqual(len(lattice.rows), width)
        for place, row in enumerate(lattice.rows):
            self.assertEqual(len(row), width)
            self.assertIn(tuple(entry % modulus for entry in row), members)
            self.assertEqual(row[place + 1 :], (0,) * (width - place - 1))
            ending = [m[place] for m in members if not any(m[place + 1 :])]
            # The modulus alone at the place belongs to the lattice, too.
            self.assertEqual(row[place], min([*[e for e in ending if e], modulus]))
            self.assertEqual(modulus % row[place], 0)
            for before in range(place):
                self.assertGreaterEqual(row[before], 0)
                self.assertLess(row[before], lattice.rows[before][before])


class LatticeTest(RowsTest):
    def test_attributes(self):
        lattice = Lattice([[1, 2, 3]], 3, 4)
        self.assertEqual((lattice.width, lattice.modulus), (3, 4))
        self.assertIsInstance(lattice.rows, tuple)
        self.assertIsInstance(lattice.rows[0], tuple)

    def test_rows(self):
        for vectors, width, modulus in CASES:
            lattice = Lattice(vectors, width, modulus)
            members = residues(vectors, width, modulus)
            self.check_rows(lattice, members, modulus)
            self.assertEqual(lattice.radices(), [lattice.rows[i][i] for i in range(width)])
            self.assertEqual(lattice.coset_count() * len(members), modulus**width)

    def test_known_rows(self):
        self.assertEqual(Lattice([], 2, 5).rows, ((5, 0), (0, 5)))
        self.assertEqual(Lattice([[2, 3]], 2, 6).rows, ((2, 0), (0, 3)))
        self.assertEqual(Lattice([[1, 1, 1]], 3, 4).rows, ((4, 0, 0), (0, 4, 0), (1, 1, 1)))
        self.assertEqual(Lattice([[1, 3], [0, 2]], 2, 4).rows, ((2, 0), (1, 1)))
        self.assertEqual(Lattice([[5, 9]], 2, 1).rows, ((1, 0), (0, 1)))

    def test_large_numbers(self):
        modulus = 6 * BIG
        lattice = Lattice([[2 * BIG, -3, BIG**2 + 1], [-BIG, 4 - BIG, 9]], 3, modulus)
        self.assertTrue(lattice.contains([2 * BIG - 5 * BIG, -3 + 20 - 5 * BIG, BIG**2 + 46]))
        count = 1
        for place, row in enumerate(lattice.rows):
            self.assertEqual(modulus % row[place], 0)
            self.assertTrue(all(0 <= row[k] < lattice.rows[k][k] for k in range(place)))
            count *= row[place]
        self.assertEqual(lattice.coset_count(), count)
        # Back from the rows to the same lattice.
        self.assertTrue(Lattice(lattice.rows, 3, modulus) == lattice)

    def test_width_64(self):
        vectors = [[(k * k + j * k + 3 * j) % 11 - 5 for k in range(64)] for j in range(20)]
        lattice = Lattice(vectors, 64, 12)
        for vector in vectors:
            self.assertTrue(lattice.contains(vector))
        for place, row in enumerate(lattice.rows):
            self.assertFalse(any(row[place + 1 :]))
            self.assertEqual(12 % row[place], 0)
            self.assertTrue(all(0 <= row[k] < lattice.rows[k][k] for k in range(place)))

    def test_the_order_of_the_vectors_does_not_matter(self):
        for vectors, width, modulus in CASES:
            lattice = Lattice(vectors, width, modulus)
            changed = [[-entry for entry in vector] for vector in vectors[::-1]]
            self.assertTrue(Lattice(changed, width, modulus) == lattice)

    def test_remainders_and_members(self):
        for vectors, width, modulus in CASES:
            lattice = Lattice(vectors, width, modulus)
            members = residues(vectors, width, modulus)
            radices = lattice.radices()
            for vector in product(range(-1, min(modulus + 1, 5)), repeat=width):
                vector = list(vector)
                kept = list(vector)
                belongs = tuple(entry % modulus for entry in vector) in members
                self.assertIs(lattice.contains(vector), belongs)
                self.assertIs(vector in lattice, belongs)
                remainder = lattice.remainder(vector)
                self.assertIsInstance(remainder, list)
                self.assertTrue(all(0 <= e < r for e, r in zip(remainder, radices)))
                change = tuple((a - b) % modulus for a, b in zip(vector, remainder))
                self.assertIn(change, members)
                self.assertEqual(vector, kept)

    def test_remainders_of_large_vectors(self):
        lattice = Lattice([[4, 2], [2, 4]], 2, 12)
        vector = [BIG, -BIG - 1]
        remainder = lattice.remainder(vector)
        self.assertTrue(lattice.contains([a - b for a, b in zip(vector, remainder)]))
        self.assertEqual(remainder, lattice.remainder(remainder))

    def test_inside(self):
        small, large = Lattice([[2, 2]], 2, 4), Lattice([[1, 1]], 2, 4)
        self.assertIs(small.inside(large), True)
        self.assertIs(large.inside(small), False)
        self.assertIs(small.inside(small), True)
        # The moduli may differ.
        self.assertIs(Lattice([], 2, 4).inside(Lattice([], 2, 2)), True)
        self.assertIs(Lattice([], 2, 2).inside(Lattice([], 2, 4)), False)
        self.assertIs(Lattice([], 2, 6).inside(Lattice([], 2, 4)), False)
        self.assertIs(Lattice([[2, 0], [0, 2]], 2, 4).inside(Lattice([], 2, 2)), True)
        for vectors, width, modulus in CASES:
            members = residues(vectors, width, modulus)
            lattice = Lattice(vectors, width, modulus)
            self.assertTrue(Lattice([], width, modulus).inside(lattice))
            for other in CASES:
                if other[1:] == (width, modulus):
                    self.assertIs(lattice.inside(Lattice(*other)), members <= residues(*other))

    def test_inside_with_another_width(self):
        self.refused(Mismatch, Lattice([], 2, 4).inside, Lattice([], 3, 4))
        self.refused(Mismatch, Lattice([], 3, 4).inside, Lattice([], 2, 4))

    def test_joined(self):
        for vectors, width, modulus in CASES:
            for more in ([], [list(range(width))], [[2] * width, [-1] + [0] * (width - 1)]):
                lattice = Lattice(vectors, width, modulus)
                before = lattice.rows
                joined = lattice.joined(more)
                self.assertIs(joined.__class__, Lattice)
                self.assertTrue(joined == Lattice(vectors + more, width, modulus))
                self.assertEqual((joined.width, joined.modulus), (width, modulus))
                self.assertEqual(lattice.rows, before)

    def test_reordered(self):
        places = [2, 0, 1]
        lattice = Lattice([[1, 2, 3]], 3, 8)
        reordered = lattice.reordered(places)
        self.assertTrue(reordered.contains([3, 1, 2]))
        self.assertTrue(reordered == Lattice([[3, 1, 2]], 3, 8))
        self.assertFalse(reordered == lattice)
        self.assertEqual(places, [2, 0, 1])
        for vectors, width, modulus in CASES:
            places = list(range(width))[::-1]
            lattice = Lattice(vectors, width, modulus)
            expected = Lattice([vector[::-1] for vector in vectors], width, modulus)
            self.assertTrue(lattice.reordered(places) == expected)
            self.assertTrue(lattice.reordered(list(range(width))) == lattice)
            self.assertEqual(lattice.reordered(places).modulus, modulus)

    def test_reordered_with_wrong_places(self):
        lattice = Lattice([], 3, 4)
        for places in (
            [],
            [0, 1],
            [0, 1, 1],
            [0, 1, 3],
            [1, 2, 3],
            [0, 1, 2, 2],
            [0, 1, 2, 3],
            [-1, 0, 1],
            [0, 1, -1],
            [10**5000, 0, 1],
        ):
            self.refused(InvalidIndex, lattice.reordered, places)

    def test_equality(self):
        self.assertTrue(Lattice([[1, 0]], 2, 4) == Lattice([[5, 4]], 2, 4))
        self.assertFalse(Lattice([[1, 0]], 2, 4) == Lattice([[0, 1]], 2, 4))
        # The same rows with other moduli.
        self.assertTrue(Lattice([[2, 0], [0, 2]], 2, 4) == Lattice([], 2, 2))
        self.assertTrue(Lattice([[1]], 1, 6) == Lattice([], 1, 1))
        self.assertFalse(Lattice([[1]], 1, 6) != Lattice([], 1, 1))
        self.assertFalse(Lattice([], 2, 1) == Lattice([], 3, 1))
        lattice = Lattice([], 1, 3)
        for other in (lattice.rows, [[3]], 3, None):
            self.assertFalse(lattice == other)


class WrongArgumentsTest(RaisesTest):
    def test_modulus(self):
        for modulus in (0, -1, -(10**5000)):
            self.refused(InvalidModulus, Lattice, [], 2, modulus)
            self.refused(InvalidModulus, Lattice, [[1, 2]], 2, modulus)
            # A vector of a wrong length comes second.
            self.refused(InvalidModulus, Lattice, [[1]], 2, modulus)

    def test_vectors(self):
        lattice = Lattice([[1, 2]], 2, 4)
        for vector in ([], [1], [1, 2, 3], [0] * 4):
            self.refused(InvalidVector, Lattice, [vector], 2, 4)
            self.refused(InvalidVector, Lattice, [[0, 0], vector], 2, 4)
            self.refused(InvalidVector, Lattice, [vector, [0, 0]], 2, 1)
            self.refused(InvalidVector, lattice.remainder, vector)
            self.refused(InvalidVector, lattice.contains, vector)
            self.refused(InvalidVector, lambda: vector in lattice)
            self.refused(InvalidVector, lambda: vector not in lattice)
            self.refused(InvalidVector, lattice.joined, [vector])
            self.refused(InvalidVector, lattice.joined, [[0, 0], vector])

    def test_arguments_and_results_are_the_callers_own(self):
        vectors = [[3, 1], [2, 2]]
        lattice = Lattice(vectors, 2, 4)
        self.assertEqual(vectors, [[3, 1], [2, 2]])
        before = lattice.rows
        vectors[0][0] = 0
        vectors.clear()
        lattice.radices().clear()
        lattice.remainder([1, 1]).clear()
        self.assertEqual(lattice.rows, before)
        self.assertEqual(len(lattice.radices()), 2)
        more = [[1, 1]]
        lattice.joined(more)
        self.assertEqual(more, [[1, 1]])


if __name__ == "__main__":
    unittest.main()
