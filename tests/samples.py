"""What several tests share: tables of groups, made without the program's own
builders, plain calculations with them, and a check of errors."""

import unittest
from functools import lru_cache
from itertools import permutations as arrangements
from itertools import product

from stepsvanish.errors import StepError
from stepsvanish.groups import Group
from stepsvanish.maps import GroupMap
from stepsvanish.targets import Target

HUGE = 10**30

# Integers that are elements of no group.
WRONG = (-1, -(10**5000), 10**5000)


class RaisesTest(unittest.TestCase):
    def refused(self, error, call, *arguments, **more):
        """The call raises an error of exactly this class."""
        with self.assertRaises(StepError) as caught:
            call(*arguments, **more)
        self.assertIs(caught.exception.__class__, error)


def closed(table, members):
    """The elements of the subgroup that the members generate, ascending."""
    found = {0, *members}
    while True:
        more = found | {table[x][y] for x in found for y in found}
        if more == found:
            return sorted(found)
        found = more


def times(table, first, second):
    """The coefficients of the product of two formal sums."""
    result = [0] * len(table)
    for x, a in enumerate(first):
        for y, b in enumerate(second):
            result[table[x][y]] += a * b
    return result


def minus_identity(table, element):
    """The coefficients of the formal sum "element minus identity"."""
    result = [0] * len(table)
    result[element] += 1
    result[0] -= 1
    return result


def table_of(members, times):
    """The table of a list of members under a product; the first is the identity."""
    number = {member: at for at, member in enumerate(members)}
    return [[number[times(x, y)] for y in members] for x in members]


def cyclic_table(order):
    return [[(x + y) % order for y in range(order)] for x in range(order)]


def follow(p, q):
    return tuple(q[p[i]] for i in range(len(p)))


def is_even(p):
    swaps = sum(1 for i in range(len(p)) for j in range(i) if p[j] > p[i])
    return swaps % 2 == 0


def symmetric_table(points):
    return table_of(list(arrangements(range(points))), follow)


def alternating_table(points):
    return table_of([p for p in arrangements(range(points)) if is_even(p)], follow)


def dihedral_table(corners):
    """Pairs (turn, flip); a flip reverses every later turn."""
    members = [(turn, flip) for turn in range(corners) for flip in range(2)]

    def times(x, y):
        turn = x[0] - y[0] if x[1] else x[0] + y[0]
        return (turn % corners, (x[1] + y[1]) % 2)

    return table_of(members, times)


def quaternion_table():
    """Pairs (turn, flip) with turns modulo 4; two flips are a half turn."""
    members = [(turn, flip) for turn in range(4) for flip in range(2)]

    def times(x, y):
        turn = x[0] - y[0] if x[1] else x[0] + y[0]
        if x[1] and y[1]:
            turn += 2
        return (turn % 4, (x[1] + y[1]) % 2)

    return table_of(members, times)


def product_table(left, right):
    width = len(right)
    members = [(x, y) for x in range(len(left)) for y in range(width)]
    return table_of(members, lambda a, b: (left[a[0]][b[0]], right[a[1]][b[1]]))


def power_table(table, exponent):
    result = [[0]]
    for _ in range(exponent):
        result = product_table(result, table)
    return result


SMALL = {
    "one": [[0]],
    "two": cyclic_table(2),
    "three": cyclic_table(3),
    "four": cyclic_table(4),
    "klein": power_table(cyclic_table(2), 2),
    "six": cyclic_table(6),
    "symmetric": symmetric_table(3),
    "eight": cyclic_table(8),
    "square": dihedral_table(4),
    "quaternion": quaternion_table(),
    "nine": power_table(cyclic_table(3), 2),
    "alternating": alternating_table(4),
}

LARGE = {
    "four points": symmetric_table(4),
    "cyclic": cyclic_table(32),
    "many twos": power_table(cyclic_table(2), 5),
    "sixteen corners": dihedral_table(16),
    "quaternions": product_table(quaternion_table(), cyclic_table(4)),
}

# A table with identity and inverses that is not associative.
LOOP = [
    [0, 1, 2, 3, 4],
    [1, 0, 3, 4, 2],
    [2, 4, 0, 1, 3],
    [3, 2, 4, 0, 1],
    [4, 3, 1, 2, 0],
]


# Groups and moduli with few enough maps to go through all of them.
CASES = [
    ("one", ()),
    ("one", (4,)),
    ("one", (2, 3)),
    ("two", ()),
    ("two", (2,)),
    ("two", (4,)),
    ("two", (2, 4)),
    ("two", (6,)),
    ("three", (3,)),
    ("three", (4,)),
    ("three", (6,)),
    ("three", (9,)),
    ("three", (3, 2)),
    ("four", (2,)),
    ("four", (4,)),
    ("four", (2, 2)),
    ("klein", (2,)),
    ("klein", (4,)),
    ("klein", (2, 3)),
    ("six", (2,)),
    ("six", (3,)),
    ("symmetric", (2,)),
    ("symmetric", (3,)),
    ("symmetric", (4,)),
    ("eight", (2,)),
    ("square", (2,)),
    ("quaternion", (2,)),
]


def upper_table(prime):
    """Triples of integers modulo the prime, multiplied like upper triangular matrices."""
    members = list(product(range(prime), repeat=3))

    def times(x, y):
        a, b, c = (left + right for left, right in zip(x, y))
        return (a % prime, b % prime, (c + x[0] * y[1]) % prime)

    return table_of(members, times)


# Groups whose orders are powers of a prime number, with this number.
PRIME_POWERS = [
    (2, SMALL["one"]),
    (31, SMALL["one"]),
    (999983, SMALL["one"]),
    (2, SMALL["two"]),
    (3, SMALL["three"]),
    (2, SMALL["four"]),
    (2, SMALL["klein"]),
    (2, SMALL["eight"]),
    (2, SMALL["square"]),
    (2, SMALL["quaternion"]),
    (3, SMALL["nine"]),
    (3, cyclic_table(9)),
    (2, product_table(cyclic_table(4), cyclic_table(2))),
    (2, product_table(cyclic_table(2), cyclic_table(8))),
    (5, cyclic_table(25)),
    (3, upper_table(3)),
    (3, product_table(cyclic_table(9), cyclic_table(3))),
    (31, cyclic_table(31)),
    (2, LARGE["cyclic"]),
    (2, LARGE["many twos"]),
    (2, LARGE["sixteen corners"]),
    (2, LARGE["quaternions"]),
]

# Groups and primes such that the order is no power of the prime.
OTHER_ORDERS = [
    (3, SMALL["two"]),
    (2, SMALL["three"]),
    (2, SMALL["six"]),
    (3, SMALL["symmetric"]),
    (2, SMALL["alternating"]),
    (5, SMALL["eight"]),
    (999983, SMALL["klein"]),
    (3, LARGE["four points"]),
]

NO_PRIMES = (0, 1, -1, -2, -3, 4, 6, 9, 15, 25, 1000000, 999999, -(10**5000))


def values_of(moduli):
    return list(product(*[range(modulus) for modulus in moduli]))


def raw_step(table, moduli, images, a):
    """The images of the difference by a, without the program."""
    return tuple(
        tuple((v - w) % m for v, w, m in zip(images[row[a]], images[x], moduli))
        for x, row in enumerate(table)
    )


@lru_cache(maxsize=None)
def degrees_of_case(name, moduli):
    """A dict from the images of each map to its degree, or to None."""
    table = SMALL[name]
    everything = list(product(values_of(moduli), repeat=len(table)))
    after = {f: [raw_step(table, moduli, f, a) for a in range(len(table))] for f in everything}
    known = {((0,) * len(moduli),) * len(table): -1}
    while True:
        # The degree is at most d if all differences have degree at most d - 1.
        more = [f for f in everything if f not in known and all(g in known for g in after[f])]
        if not more:
            return {f: known.get(f) for f in everything}
        for f in more:
            known[f] = 1 + max(known[g] for g in after[f])


def listed_images(name, moduli, bound):
    """The images of all maps of degree at most the bound, ascending."""
    found = degrees_of_case(name, moduli)
    return sorted(f for f, d in found.items() if d is not None and d <= bound)


def case_objects(name, moduli):
    return Group(SMALL[name]), Target(list(moduli))


def numbered_map(table, moduli, salt):
    """Some map with images that are spread over the target."""
    group, target = Group(table), Target(list(moduli))
    parts = [
        [x * x * (7 + salt) + 3 * x * salt + j + x * x * x * j for x in range(group.order)]
        for j in range(len(moduli))
    ]
    return GroupMap.from_parts(group, target, parts)
