"""Composition of maps by way of positions, and indicators of places."""

from stepsvanish.errors import InvalidValue, Mismatch
from stepsvanish.maps import GroupMap


def compose(f, g):
    """The map that assigns to x the image under g of the position of f(x)."""
    if g.group != f.target.as_group():
        raise Mismatch("the group of the second map is not the target of the first one")
    images = [g.images[f.target.position(value)] for value in f.images]
    return GroupMap(f.group, g.target, images)


def indicator(group, target, places, value):
    """The map that assigns the value to the places and zero to all other elements."""
    group.require(places)
    if not target.is_value(value):
        raise InvalidValue("the tuple is not a value of the target")
    images = [value if x in places else target.zero for x in range(group.order)]
    return GroupMap(group, target, images)
