"""Partly given maps: their extensions, or why there is none."""

from stepsvanish.choices import Choices
from stepsvanish.errors import InvalidIndex, InvalidValue, InvalidVector
from stepsvanish.powers import chain_steps, power_lattice, target_lattices
from stepsvanish.targets import Target


def restricted(f, places):
    """The partial map with the images of f at the places."""
    f.group.require(places)
    return [value if x in places else None for x, value in enumerate(f.images)]


def extension(group, target, bound, partial):
    """The first extension, or None."""
    choices = _choices(group, target, bound, partial)
    if choices.conflict() is not None:
        return None
    return choices.map_with(0)


def extension_count(group, target, bound, partial):
    """The number of extensions."""
    return _choices(group, target, bound, partial).number()


def extensions(group, target, bound, partial):
    """Yield the extensions in ascending order."""
    choices = _choices(group, target, bound, partial)
    for position in range(choices.number()):
        yield choices.map_with(position)


def extension_at(group, target, bound, partial, position):
    """The extension with exactly `position` extensions before it."""
    choices = _choices(group, target, bound, partial)
    if not 0 <= position < choices.number():
        raise InvalidIndex("no extension has this position")
    return choices.map_with(position)


def refutation(group, target, bound, partial):
    """A tuple (part, coefficients) that shows that there is no extension, or None."""
    choices = _choices(group, target, bound, partial)
    found = choices.conflict()
    if found is None:
        return None
    place, at = found
    return (at, choices.refuting(place, at))


def is_refutation(group, target, bound, partial, part, coefficients):
    """True if the part and the coefficients are a refutation."""
    _require_partial(group, target, partial)
    if not 0 <= part < len(target.moduli):
        raise InvalidIndex("the target has no such part")
    if len(coefficients) != group.order:
        raise InvalidVector("there is not one coefficient for each element")
    total = 0
    for coefficient, entry in zip(coefficients, partial):
        if entry is not None:
            total = total + coefficient * entry[part]
        elif coefficient != 0:
            return False
    modulus = target.moduli[part]
    lattice = power_lattice(group, bound + 1, modulus)
    return total % modulus != 0 and lattice.contains(coefficients)


def first_conflict(group, target, bound, partial):
    """The least element up to which the entries have no extension, or None."""
    choices = _choices(group, target, bound, partial)
    found = choices.conflict()
    if found is None:
        return None
    return choices.sequence[found[0]]


def least_bound(group, target, partial):
    """The least bound with an extension, or None if no bound has one."""
    _require_partial(group, target, partial)
    greatest = -1
    for at, modulus in enumerate(target.moduli):
        found = _least_part_bound(group, modulus, at, partial)
        if found is None:
            return None
        greatest = max(greatest, found)
    return greatest


def _choices(group, target, bound, partial):
    _require_partial(group, target, partial)
    return Choices(group, target, target_lattices(group, target, bound + 1), partial)


def _require_partial(group, target, partial):
    if len(partial) != group.order:
        raise InvalidValue("there is not one entry for each element")
    for entry in partial:
        if entry is not None and not target.is_value(entry):
            raise InvalidValue("an entry is neither None nor a value of the target")


def _least_part_bound(group, modulus, at, partial):
    """The least bound with an extension of one part, or None."""
    numbers = [None if entry is None else (entry[at],) for entry in partial]
    single = Target([modulus])
    for exponent, lattice in enumerate(chain_steps(group, modulus)):
        if Choices(group, single, [lattice], numbers).conflict() is None:
            return exponent - 1
    return None
