"""Diagonal forms of tables of integers, and the divisors that they show."""

from math import gcd

from stepsvanish.errors import InvalidModulus
from stepsvanish.numbers import bezout
from stepsvanish.powers import power_lattice


class DiagonalForm:
    """A diagonal form of a table modulo an integer; `diagonal_form` creates it."""

    def __init__(self, modulus, diagonal, left, right):
        self.modulus = modulus
        self.left = left.rows
        self.left_inverse = _flipped(left.back)
        self.right = _flipped(right.rows)
        self.right_inverse = right.back
        self.divisors = diagonal


class Side:
    """The product of the operations on the rows of a table.

    `back` is its inverse with rows and columns exchanged, so that it is kept
    by operations on rows, too.
    """

    def __init__(self, size, modulus):
        self.rows = _identity(size, modulus)
        self.back = _identity(size, modulus)


class Reduction:
    """A table on its way to its diagonal form modulo an integer.

    Only rows are combined. For columns the table is turned over, with its
    rows as columns, and its two sides change places.
    """

    def __init__(self, table, modulus):
        self.modulus = modulus
        self.rows = [[entry % modulus for entry in row] for row in table]
        self.side = Side(len(self.rows), modulus)
        self.other_side = Side(len(self.rows[0]), modulus)

    def turn_over(self):
        """Make the columns rows and the rows columns."""
        self.rows = _flipped(self.rows)
        self.side, self.other_side = self.other_side, self.side

    def combine(self, first, second, factors):
        """Replace two rows by combinations of them; the determinant has to be 1."""
        a, b, c, d = factors
        _combine(self.rows, first, second, factors, self.modulus)
        _combine(self.side.rows, first, second, factors, self.modulus)
        _combine(self.side.back, first, second, (d, -c, -b, a), self.modulus)

    def scale(self, at, unit, inverse):
        """Multiply a row by an integer that has an inverse."""
        _scale(self.rows, at, unit, self.modulus)
        _scale(self.side.rows, at, unit, self.modulus)
        _scale(self.side.back, at, inverse, self.modulus)

    def exchange(self, at, place):
        """Bring another row to a place; one of the two rows changes its sign."""
        if place != at:
            self.combine(at, place, (0, 1, -1, 0))

    def find_pivot(self, at):
        """The place with the least divisor of the modulus, or None if all is 0."""
        best = self.modulus
        found = None
        for i, row in enumerate(self.rows):
            for j, entry in enumerate(row):
                if min(i, j) >= at and gcd(entry, self.modulus) < best:
                    best = gcd(entry, self.modulus)
                    found = (i, j)
        return found

    def set_pivot(self, at, found):
        """Bring the entry to the diagonal and make it a divisor of the modulus."""
        i, j = found
        self.exchange(at, i)
        self.turn_over()
        self.exchange(at, j)
        self.turn_over()
        unit, inverse = _unit_for(self.rows[at][at], self.modulus)
        self.scale(at, unit, inverse)

    def clear_column(self, at):
        """Make the entries below the pivot 0; the pivot may become smaller."""
        height = len(self.rows)
        for place in range(at + 1, height):
            pivot = self.rows[at][at]
            entry = self.rows[place][at]
            if entry % pivot == 0:
                # The row of the pivot stays, so what is cleared stays clear.
                self.combine(at, place, (1, 0, -(entry // pivot), 1))
            else:
                divisor, s, t = bezout(pivot, entry)
                self.combine(at, place, (s, t, -(entry // divisor), pivot // divisor))

    def clear_both(self, at):
        """Make all other entries of the row and of the column of the pivot 0."""
        self.clear_column(at)
        while any(self.rows[at][at + 1 :]):
            self.turn_over()
            self.clear_column(at)
            self.turn_over()
            self.clear_column(at)

    def finish_pivot(self, at):
        """Clear around the pivot until it divides all entries behind it."""
        self.clear_both(at)
        place = self.undivided_row(at)
        while place is not None:
            self.combine(at, place, (1, 1, 0, 1))
            self.clear_both(at)
            place = self.undivided_row(at)

    def undivided_row(self, at):
        """A row behind the pivot with an entry that it does not divide, or None."""
        pivot = self.rows[at][at]
        for place in range(at + 1, len(self.rows)):
            if any([entry % pivot for entry in self.rows[place][at + 1 :]]):
                return place
        return None


def diagonal_form(table, *, modulus):
    """A diagonal form of the table modulo the modulus."""
    if modulus < 1:
        raise InvalidModulus("the modulus is below 1")
    reduction = Reduction(table, modulus)
    size = min(len(table), len(table[0]))
    diagonal = [modulus] * size
    for at in range(size):
        found = reduction.find_pivot(at)
        if found is None:
            break
        reduction.set_pivot(at, found)
        reduction.finish_pivot(at)
        diagonal[at] = reduction.rows[at][at]
    return DiagonalForm(modulus, diagonal, reduction.side, reduction.other_side)


def divisors(table):
    """The divisors over the integers of a table, as many as its rank."""
    minor = _largest_minor(table)
    if minor == 0:
        return []
    form = diagonal_form(table, modulus=2 * abs(minor))
    return [divisor for divisor in form.divisors if divisor < form.modulus]


def divisor_row(group, bound):
    """The divisor row of the group for a bound of at least 0."""
    modulus = 1
    for _ in range(bound):
        modulus = modulus * group.order
    lattice = power_lattice(group, bound + 1, modulus)
    form = diagonal_form(lattice.rows, modulus=modulus)
    # The last divisor belongs to the formal sums with another sum than 0.
    return [divisor for divisor in form.divisors[:-1] if divisor > 1]


def _largest_minor(table):
    """A minor other than 0 of the greatest size, and 0 if all entries are 0."""
    rows = [list(row) for row in table]
    minor = 0
    divisor = 1
    found = _first_entry(rows)
    while found is not None:
        i, j = found
        minor = rows[i][j]
        rest = []
        for row in rows[:i] + rows[i + 1 :]:
            # Each entry becomes a minor that contains the earlier pivots, so
            # the division by the pivot before is without remainder.
            entries = [(minor * a - row[j] * b) // divisor for a, b in zip(row, rows[i])]
            rest.append(entries[:j] + entries[j + 1 :])
        rows = rest
        divisor = minor
        found = _first_entry(rows)
    return minor


def _first_entry(rows):
    for i, row in enumerate(rows):
        for j, entry in enumerate(row):
            if entry != 0:
                return (i, j)
    return None


def _identity(size, modulus):
    return [[int(i == j) % modulus for j in range(size)] for i in range(size)]


def _flipped(rows):
    """The table with the columns as rows."""
    return [[row[at] for row in rows] for at in range(len(rows[0]))]


def _combine(rows, first, second, factors, modulus):
    a, b, c, d = factors
    upper = rows[first]
    lower = rows[second]
    rows[first] = [(a * x + b * y) % modulus for x, y in zip(upper, lower)]
    rows[second] = [(c * x + d * y) % modulus for x, y in zip(upper, lower)]


def _scale(rows, at, factor, modulus):
    rows[at] = [factor * entry % modulus for entry in rows[at]]


def _unit_for(entry, modulus):
    """An integer that makes the entry a divisor of the modulus, and its inverse."""
    divisor = gcd(entry, modulus)
    rest = modulus // divisor
    unit = bezout(entry // divisor, rest)[1] % rest
    # Some integer with this remainder has no divisor in common with the modulus.
    while gcd(unit, modulus) != 1:
        unit = unit + rest
    return unit, bezout(unit, modulus)[1] % modulus
