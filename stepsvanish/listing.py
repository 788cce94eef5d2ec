"""The maps of bounded degree in ascending order: how many, which one, where."""

from stepsvanish.choices import Choices, filled, least_choice
from stepsvanish.degrees import vanishes_on_all
from stepsvanish.errors import DegreeTooHigh, InvalidIndex
from stepsvanish.lattices import Lattice
from stepsvanish.powers import power_lattice, target_lattices


def choice_counts(group, target, bound):
    """For each element and part the number of choices, given all earlier ones."""
    lattices = target_lattices(group, target, bound + 1)
    return [[lattice.rows[x][x] for lattice in lattices] for x in range(group.order)]


def number_of_maps(group, target, bound):
    """The number of listed maps."""
    return count_on(target_lattices(group, target, bound + 1))


def count_on(lattices):
    """The number of maps that are 0 at each vector of the lattices for the moduli."""
    count = 1
    for lattice in lattices:
        count = count * lattice.coset_count()
    return count


def map_at(group, target, bound, position):
    """The listed map with the given position."""
    choices = _all_choices(group, target, bound)
    if not 0 <= position < choices.number():
        raise InvalidIndex("no listed map has this position")
    return choices.map_with(position)


def position_of(f, bound):
    """The position of a listed map."""
    lattices = target_lattices(f.group, f.target, bound + 1)
    if not vanishes_on_all(lattices, f):
        raise DegreeTooHigh("the map has no degree of at most the bound")
    position = 0
    for x, value in enumerate(f.images):
        for lattice, entry in zip(lattices, value):
            radix = lattice.rows[x][x]
            position = position * radix + entry // (lattice.modulus // radix)
    return position


def maps_before(f, bound):
    """The number of listed maps that come before any map."""
    lattices = target_lattices(f.group, f.target, bound + 1)
    parts = [f.part(at) for at in range(len(lattices))]
    rest = count_on(lattices)
    before = 0
    for x in range(f.group.order):
        for lattice, numbers in zip(lattices, parts):
            least, spacing = least_choice(lattice, x, numbers[:x])
            rest = rest // lattice.rows[x][x]
            # The choices below the image, rounded up.
            before = before - (least - numbers[x]) // spacing * rest
            if (least - numbers[x]) % spacing != 0:
                return before
    return before


def maps_up_to(group, target, bound):
    """Yield the listed maps in ascending order."""
    choices = _all_choices(group, target, bound)
    for position in range(choices.number()):
        yield choices.map_with(position)


def map_lattice(group, modulus, bound):
    """The lattice of the lists that are the images of listed maps, modulo the modulus."""
    lattice = power_lattice(group, bound + 1, modulus)
    order = group.order
    vectors = []
    for x in range(order):
        # Least choices but for the second one at x: each list is a combination.
        digits = [1] + [0] * (order - x - 1)
        vectors.append(filled(lattice, [0] * x, digits))
    return Lattice(vectors, order, modulus)


def _all_choices(group, target, bound):
    lattices = target_lattices(group, target, bound + 1)
    return Choices(group, target, lattices, [None] * group.order)
