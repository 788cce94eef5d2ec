"""What several tests share: tables of groups, made without the program's own
builders, plain calculations with them, and a check of errors."""

import unittest
from itertools import permutations as arrangements

from stepsvanish.errors import StepError

# Integers that are elements of no group.
WRONG = (-1, -(10**5000), 10**5000)


class RaisesTest(unittest.TestCase):
    def refused(self, error, call, *arguments, **more):
        """The call raises an error of exactly this class."""
        with self.assertRaises(StepError) as caught:
            call(*arguments, **more)
        self.assertIs(caught.exception.__class__, error)


def closed(table, members):
    """The elements of the subgroup that the members generate, ascending."""
    found = {0, *members}
    while True:
        more = found | {table[x][y] for x in found for y in found}
        if more == found:
            return sorted(found)
        found = more


def times(table, first, second):
    """The coefficients of the product of two formal sums."""
    result = [0] * len(table)
    for x, a in enumerate(first):
        for y, b in enumerate(second):
            result[table[x][y]] += a * b
    return result


def minus_identity(table, element):
    """The coefficients of the formal sum "element minus identity"."""
    result = [0] * len(table)
    result[element] += 1
    result[0] -= 1
    return result


def table_of(members, times):
    """The table of a list of members under a product; the first is the identity."""
    number = {member: at for at, member in enumerate(members)}
    return [[number[times(x, y)] for y in members] for x in members]


def cyclic_table(order):
    return [[(x + y) % order for y in range(order)] for x in range(order)]


def follow(p, q):
    return tuple(q[p[i]] for i in range(len(p)))


def is_even(p):
    swaps = sum(1 for i in range(len(p)) for j in range(i) if p[j] > p[i])
    return swaps % 2 == 0


def symmetric_table(points):
    return table_of(list(arrangements(range(points))), follow)


def alternating_table(points):
    return table_of([p for p in arrangements(range(points)) if is_even(p)], follow)


def dihedral_table(corners):
    """Pairs (turn, flip); a flip reverses every later turn."""
    members = [(turn, flip) for turn in range(corners) for flip in range(2)]

    def times(x, y):
        turn = x[0] - y[0] if x[1] else x[0] + y[0]
        return (turn % corners, (x[1] + y[1]) % 2)

    return table_of(members, times)


def quaternion_table():
    """Pairs (turn, flip) with turns modulo 4; two flips are a half turn."""
    members = [(turn, flip) for turn in range(4) for flip in range(2)]

    def times(x, y):
        turn = x[0] - y[0] if x[1] else x[0] + y[0]
        if x[1] and y[1]:
            turn += 2
        return (turn % 4, (x[1] + y[1]) % 2)

    return table_of(members, times)


def product_table(left, right):
    width = len(right)
    members = [(x, y) for x in range(len(left)) for y in range(width)]
    return table_of(members, lambda a, b: (left[a[0]][b[0]], right[a[1]][b[1]]))


def power_table(table, exponent):
    result = [[0]]
    for _ in range(exponent):
        result = product_table(result, table)
    return result


SMALL = {
    "one": [[0]],
    "two": cyclic_table(2),
    "three": cyclic_table(3),
    "four": cyclic_table(4),
    "klein": power_table(cyclic_table(2), 2),
    "six": cyclic_table(6),
    "symmetric": symmetric_table(3),
    "eight": cyclic_table(8),
    "square": dihedral_table(4),
    "quaternion": quaternion_table(),
    "nine": power_table(cyclic_table(3), 2),
    "alternating": alternating_table(4),
}

LARGE = {
    "four points": symmetric_table(4),
    "cyclic": cyclic_table(32),
    "many twos": power_table(cyclic_table(2), 5),
    "sixteen corners": dihedral_table(16),
    "quaternions": product_table(quaternion_table(), cyclic_table(4)),
}

# A table with identity and inverses that is not associative.
LOOP = [
    [0, 1, 2, 3, 4],
    [1, 0, 3, 4, 2],
    [2, 4, 0, 1, 3],
    [3, 2, 4, 0, 1],
    [4, 3, 1, 2, 0],
]
