"""Maps of bounded degree that are chosen element by element and part by part."""

from stepsvanish.lattices import product_sum
from stepsvanish.maps import GroupMap


class Choices:
    """The maps of bounded degree that agree with a partial map.

    The power lattices, one for each modulus of the target, are reordered:
    the given elements come first, so their rows tell if there is such a map,
    and all other rows tell what can be chosen at the open elements.
    """

    def __init__(self, group, target, lattices, partial):
        given = [x for x, entry in enumerate(partial) if entry is not None]
        self.group = group
        self.target = target
        self.given_count = len(given)
        self.sequence = given + [x for x, entry in enumerate(partial) if entry is None]
        self.lattices = [lattice.reordered(self.sequence) for lattice in lattices]
        self.fixed = [[partial[x][at] for x in given] for at in range(len(lattices))]

    def conflict(self):
        """The first given place and part that no map agrees with, or None."""
        for place in range(self.given_count):
            for at, lattice in enumerate(self.lattices):
                # A row is 0 behind its place, so later images do not count.
                if product_sum(lattice.rows[place], self.fixed[at]) % lattice.modulus != 0:
                    return (place, at)
        return None

    def chosen_radices(self):
        """The numbers of choices, in the order in which they are made."""
        places = range(self.given_count, self.group.order)
        return [lattice.rows[place][place] for place in places for lattice in self.lattices]

    def number(self):
        """The number of the maps."""
        if self.conflict() is not None:
            return 0
        number = 1
        for radix in self.chosen_radices():
            number = number * radix
        return number

    def map_with(self, position):
        """The map with exactly so many of the maps before it."""
        digits = digits_of(position, self.chosen_radices())
        parts = []
        for at, lattice in enumerate(self.lattices):
            entries = filled(lattice, self.fixed[at], digits[at :: len(self.lattices)])
            parts.append(in_order(self.sequence, entries))
        return GroupMap.from_parts(self.group, self.target, parts)

    def refuting(self, place, at):
        """The row of a given place, as a formal sum."""
        return in_order(self.sequence, self.lattices[at].rows[place])


def in_order(sequence, entries):
    """The entries, which belong to the elements of a sequence, in ascending order of these."""
    numbers = [0] * len(sequence)
    for place, entry in zip(sequence, entries):
        numbers[place] = entry
    return numbers


def least_choice(lattice, place, chosen):
    """The least integer that can be chosen at a place, and the step to the next one.

    The integers at the places before have been chosen.
    """
    row = lattice.rows[place]
    radix = row[place]
    spacing = lattice.modulus // radix
    return -(product_sum(row[:place], chosen) // radix) % spacing, spacing


def filled(lattice, chosen, digits):
    """The chosen integers and behind them those that the digits choose."""
    entries = list(chosen)
    for digit in digits:
        least, spacing = least_choice(lattice, len(entries), entries)
        entries.append(least + digit * spacing)
    return entries


def digits_of(position, radices):
    """The digits of a position for the radices, the most significant one first."""
    digits = []
    rest = position
    for radix in reversed(radices):
        digits.append(rest % radix)
        rest = rest // radix
    return digits[::-1]
