"""New groups from integers, permutations and other groups, and homomorphisms."""

from stepsvanish.errors import InvalidGroup, InvalidVector, LimitExceeded, NotNormal, NotSubgroup
from stepsvanish.groups import LIMIT, Group
from stepsvanish.subgroups import is_normal, is_subgroup, left_cosets


def cyclic(order):
    """The group in which the product is the sum modulo the order."""
    if order < 1:
        raise InvalidGroup("the order is below 1")
    if order > LIMIT:
        raise LimitExceeded("the order is above 32")
    return Group([[(x + y) % order for y in range(order)] for x in range(order)])


def from_permutations(permutations, *, points):
    """The group of all products of the permutations, and the list of the products."""
    plain = list(range(points))
    for permutation in permutations:
        if sorted(permutation) != plain:
            raise InvalidGroup("a list is not a permutation of the points")
    collected = _all_products(permutations, plain)
    table = [[collected.index(_followed(p, q)) for q in collected] for p in collected]
    return Group(table), collected


def _all_products(permutations, plain):
    found = [plain]
    at = 0
    while at < len(found):
        for permutation in permutations:
            product = _followed(found[at], permutation)
            if product not in found:
                if len(found) == LIMIT:
                    raise LimitExceeded("there are more than 32 products")
                found.append(product)
        at = at + 1
    return sorted(found)


def _followed(first, second):
    """The product of two permutations: the second one after the first one."""
    return [second[image] for image in first]


def direct_product(*groups):
    """The group of the tuples with one element of each group."""
    order = 1
    for group in groups:
        order = order * group.order
    if order > LIMIT:
        raise LimitExceeded("the product of the orders is above 32")
    table = [[0]]
    for group in groups:
        table = _paired(table, group.rows)
    return Group(table)


def _paired(left, right):
    """The table of the pairs of the elements of two tables."""
    width = len(right)
    table = []
    for upper in left:
        for lower in right:
            table.append([first * width + second for first in upper for second in lower])
    return table


def quotient(group, members):
    """The group of the left cosets of a normal subgroup, and the projection."""
    cosets = left_cosets(group, members)
    if not is_normal(group, members):
        raise NotNormal("the subgroup is not normal")
    projection = [0] * group.order
    for number, coset in enumerate(cosets):
        for element in coset:
            projection[element] = number
    table = []
    for left in cosets:
        row = group.rows[left[0]]
        table.append([projection[row[right[0]]] for right in cosets])
    return Group(table), projection


def subgroup_as_group(group, members):
    """The subgroup as a group of its own, and the inclusion."""
    if not is_subgroup(group, members):
        raise NotSubgroup("the list is not a subgroup")
    inclusion = list(members)
    table = [[inclusion.index(group.rows[x][y]) for y in inclusion] for x in inclusion]
    return Group(table), inclusion


def is_homomorphism(group, other, images):
    """True if the image of each product is the product of the images."""
    if len(images) != group.order:
        raise InvalidVector("there is not one image for each element")
    other.require(images)
    for row, left in zip(group.rows, images):
        for product, right in zip(row, images):
            if images[product] != other.rows[left][right]:
                return False
    return True
