"""Lattices of integer vectors that contain every multiple of a modulus."""

from stepsvanish.errors import InvalidIndex, InvalidModulus, InvalidVector, Mismatch
from stepsvanish.numbers import bezout


class Lattice:
    """All integer combinations of some vectors and of the modulus at each place.

    Its rows are a staircase: row i is 0 after place i, and its entry at place
    i is the least positive one that occurs there.
    """

    def __init__(self, vectors, width, modulus):
        if modulus < 1:
            raise InvalidModulus("the modulus is below 1")
        _require_lengths(vectors, width)
        rows = [[0] * place + [modulus] + [0] * (width - place - 1) for place in range(width)]
        for vector in vectors:
            rows = _widened(rows, vector, modulus)
        self.width = width
        self.modulus = modulus
        self.rows = _settled(rows)

    def __eq__(self, other):
        return isinstance(other, Lattice) and self.rows == other.rows

    def __contains__(self, vector):
        return self.contains(vector)

    def radices(self):
        """The list of the radices of all places."""
        return [row[place] for place, row in enumerate(self.rows)]

    def coset_count(self):
        """The number of cosets, the product of the radices."""
        count = 1
        for radix in self.radices():
            count = count * radix
        return count

    def remainder(self, vector):
        """The vector of the same coset whose entries are below the radices."""
        _require_lengths([vector], self.width)
        return _lowered(self.rows, vector)

    def contains(self, vector):
        """True if the vector belongs to the lattice."""
        return not any(self.remainder(vector))

    def inside(self, other):
        """True if every vector of this lattice belongs to the other one."""
        if self.width != other.width:
            raise Mismatch("the widths of the lattices differ")
        return all([other.contains(row) for row in self.rows])

    def joined(self, vectors):
        """The least lattice that contains this one and the vectors."""
        return Lattice([*self.rows, *vectors], self.width, self.modulus)

    def reordered(self, places):
        """The lattice of the vectors with the entries in another order."""
        if sorted(places) != list(range(self.width)):
            raise InvalidIndex("the list does not contain each place exactly once")
        vectors = [[row[place] for place in places] for row in self.rows]
        return Lattice(vectors, self.width, self.modulus)


def vanishes_on(lattice, numbers):
    """True if each vector of the lattice has a multiple of the modulus as its product.

    The product of a vector and the numbers is the sum of the products of
    their entries.
    """
    for row in lattice.rows:
        if product_sum(row, numbers) % lattice.modulus != 0:
            return False
    return True


def product_sum(first, second):
    """The sum of the products of the entries, as far as the shorter list goes."""
    return sum([a * b for a, b in zip(first, second)])


def _require_lengths(vectors, width):
    for vector in vectors:
        if len(vector) != width:
            raise InvalidVector("the length of a vector differs from the width")


def _widened(rows, vector, modulus):
    """The staircase of the lattice with one more vector.

    Entries before the radices are reduced by the modulus only.
    """
    result = list(rows)
    rest = [entry % modulus for entry in vector]
    for place in reversed(range(len(rows))):
        entry = rest[place]
        if entry == 0:
            continue
        row = result[place]
        radix = row[place]
        divisor, left, right = bezout(radix, entry)
        if divisor < radix:
            result[place] = [(left * a + right * b) % modulus for a, b in zip(row, rest)]
        # The entry becomes 0, and no vector is lost: the new row and the new
        # rest combine to the old ones, since the divisor is their combination.
        upper = radix // divisor
        lower = entry // divisor
        rest = [(upper * b - lower * a) % modulus for a, b in zip(row, rest)]
    return result


def _settled(rows):
    """The rows with the entries before each radix reduced by the rows above."""
    settled = []
    for row in rows:
        settled.append(_lowered(settled, row))
    return tuple([tuple(row) for row in settled])


def _lowered(rows, vector):
    """The vector with its entry at the place of each row reduced by this row."""
    rest = list(vector)
    for place in reversed(range(len(rows))):
        row = rows[place]
        factor = rest[place] // row[place]
        if factor != 0:
            rest = [a - factor * b for a, b in zip(rest, row)]
    return rest
