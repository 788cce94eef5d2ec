"""Degrees of maps, repeated differences, and maps with given differences."""

from stepsvanish.errors import DegreeTooHigh, InvalidVector, Mismatch, NoDegree
from stepsvanish.lattices import vanishes_on
from stepsvanish.maps import GroupMap
from stepsvanish.powers import chain_steps, power_chain, target_lattices


def degree(f):
    """The degree of the map, or None if it has none."""
    greatest = -1
    for at, modulus in enumerate(f.target.moduli):
        found = _part_degree(f.group, modulus, f.part(at))
        if found is None:
            return None
        greatest = max(greatest, found)
    return greatest


def vanishes(f, count):
    """True if every `count` differences, one after another, give the zero map."""
    return vanishes_on_all(target_lattices(f.group, f.target, count), f)


def vanishes_on_all(lattices, f):
    """True if each part of the map is 0 at each vector of the lattice for its modulus."""
    return all([vanishes_on(lattice, f.part(at)) for at, lattice in enumerate(lattices)])


def stepped(f, members):
    """The map after the differences by the entries of a list, one after another."""
    result = f
    for member in members:
        result = result.step(member)
    return result


def leading_value(f, members):
    """The image of the constant map that the differences by the entries lead to."""
    f.group.require(members)
    if not vanishes(f, len(members) + 1):
        raise DegreeTooHigh("the map has no degree of at most the length of the list")
    return stepped(f, members)(0)


def witness(f):
    """The first list of generators that shows that the degree is not smaller."""
    bound = degree(f)
    if bound is None:
        raise NoDegree("the map has no degree")
    if bound == -1:
        return None
    known = {modulus: power_chain(f.group, modulus) for modulus in f.target.moduli}
    chains = [known[modulus] for modulus in f.target.moduli]
    members = []
    rest = f
    for count in reversed(range(bound)):
        lattices = [chain[min(count, len(chain) - 1)] for chain in chains]
        generator = _first_generator(rest, lattices)
        members.append(generator)
        rest = rest.step(generator)
    return members


def integrated(group, target, pieces):
    """The map that is zero at the identity and has the given differences, or None."""
    generators = group.generators()
    if len(pieces) != len(generators):
        raise InvalidVector("there is not one map for each generator")
    for piece in pieces:
        if piece.group != group or piece.target != target:
            raise Mismatch("a map has another group or another target")
    found = GroupMap(group, target, _walked(group, target, generators, pieces))
    for generator, piece in zip(generators, pieces):
        if found.step(generator) != piece:
            return None
    return found


def _part_degree(group, modulus, numbers):
    for exponent, lattice in enumerate(chain_steps(group, modulus)):
        if vanishes_on(lattice, numbers):
            return exponent - 1
    return None


def _first_generator(f, lattices):
    """The least generator whose difference is not 0 on all of the lattices."""
    for generator in f.group.generators():
        if not vanishes_on_all(lattices, f.step(generator)):
            return generator
    return None


def _walked(group, target, generators, pieces):
    """The images on the ways from the identity along the generators."""
    images = [None] * group.order
    images[0] = target.zero
    reached = [0]
    at = 0
    while at < len(reached):
        element = reached[at]
        for generator, piece in zip(generators, pieces):
            following = group.rows[element][generator]
            if images[following] is None:
                images[following] = target.plus(images[element], piece.images[element])
                reached.append(following)
        at = at + 1
    return images
