import unittest
from itertools import combinations

from samples import LARGE, SMALL, WRONG, RaisesTest, closed, cyclic_table
from stepsvanish.errors import InvalidElement, NotSubgroup
from stepsvanish.groups import Group
from stepsvanish.powers import power_lattice
from stepsvanish.subgroups import (
    center,
    commutator_subgroup,
    is_normal,
    is_subgroup,
    left_cosets,
    lower_series,
    normal_closure,
)

ALL = {**SMALL, **LARGE}


def inverse(table, x):
    return table[x].index(0)


def conjugate_closed(table, members):
    order = range(len(table))
    found = set(members)
    found |= {table[table[x][m]][inverse(table, x)] for x in order for m in members}
    return found


def smallest_normal(table, members):
    found = closed(table, members)
    while True:
        more = closed(table, conjugate_closed(table, found))
        if more == found:
            return found
        found = more


def commutator(table, x, y):
    return table[table[inverse(table, x)][inverse(table, y)]][table[x][y]]


class SubgroupTest(RaisesTest):
    def test_every_list_of_a_small_group(self):
        for name in ("one", "four", "klein", "six", "symmetric", "square", "quaternion"):
            table = SMALL[name]
            group = Group(table)
            for size in range(len(table) + 1):
                for members in combinations(range(len(table)), size):
                    members = list(members)
                    subgroup = bool(members) and closed(table, members) == members
                    normal = subgroup and conjugate_closed(table, members) == set(members)
                    self.assertIs(is_subgroup(group, members), subgroup)
                    self.assertIs(is_normal(group, members), normal)

    def test_known_subgroups(self):
        group = Group(SMALL["symmetric"])
        self.assertIs(is_subgroup(group, [0, 1]), True)
        self.assertIs(is_normal(group, [0, 1]), False)
        self.assertIs(is_normal(group, [0, 3, 4]), True)
        group = Group(SMALL["alternating"])
        flips = [x for x in range(12) if group.power(x, 2) == 0]
        self.assertIs(is_normal(group, flips), True)
        self.assertIs(is_normal(group, flips[:2]), False)
        self.assertIs(is_subgroup(group, flips[:2]), True)

    def test_lists_that_are_no_subgroups(self):
        group = Group(cyclic_table(6))
        for members in (
            [],
            [1],
            [2, 4],
            [0, 4, 2],
            [2, 0, 4],
            [3, 0],
            [0, 0],
            [0, 3, 3],
            [0, 0, 3],
            [0, 1],
            [0, 2, 3, 4],
            [5, 4, 3, 2, 1, 0],
        ):
            self.assertIs(is_subgroup(group, members), False)
            self.assertIs(is_normal(group, members), False)
            self.refused(NotSubgroup, left_cosets, group, members)
        for members in ([0], [0, 3], [0, 2, 4], [0, 1, 2, 3, 4, 5]):
            self.assertIs(is_subgroup(group, members), True)
            self.assertIs(is_normal(group, members), True)

    def test_what_is_no_element_comes_first(self):
        for table in (SMALL["one"], SMALL["symmetric"], cyclic_table(32)):
            group = Group(table)
            for wrong in (*WRONG, group.order, group.order + 7):
                for members in ([wrong], [0, wrong], [wrong, 0], [0, 0, wrong], [0, wrong, 0]):
                    self.refused(InvalidElement, is_subgroup, group, members)
                    self.refused(InvalidElement, is_normal, group, members)
                    self.refused(InvalidElement, normal_closure, group, members)
                    self.refused(InvalidElement, left_cosets, group, members)

    def test_the_lists_are_not_modified(self):
        group = Group(SMALL["symmetric"])
        members = [3, 1, 3, 0]
        for call in (is_subgroup, is_normal, normal_closure):
            call(group, members)
            self.assertEqual(members, [3, 1, 3, 0])
        members = [0, 1]
        left_cosets(group, members)
        self.assertEqual(members, [0, 1])


class ClosureTest(RaisesTest):
    def test_normal_closures(self):
        for table in ALL.values():
            group, order = Group(table), len(table)
            self.assertEqual(normal_closure(group, []), [0])
            for x in range(0, order, 1 + order // 12):
                expected = smallest_normal(table, [x])
                self.assertEqual(normal_closure(group, [x]), expected)
                self.assertEqual(normal_closure(group, [x, x, 0, x]), expected)
                self.assertTrue(is_normal(group, expected))
                y = (5 * x + 3) % order
                expected = smallest_normal(table, [x, y])
                self.assertEqual(normal_closure(group, [x, y]), expected)
                self.assertEqual(normal_closure(group, [y, x, y]), expected)

    def test_known_closures(self):
        group = Group(SMALL["symmetric"])
        self.assertEqual(normal_closure(group, [1]), [0, 1, 2, 3, 4, 5])
        self.assertEqual(normal_closure(group, [4]), [0, 3, 4])
        self.assertEqual(normal_closure(Group(cyclic_table(6)), [4, 4]), [0, 2, 4])


class CosetsTest(RaisesTest):
    def test_cosets(self):
        for table in ALL.values():
            group, order = Group(table), len(table)
            for x in range(0, order, 1 + order // 8):
                members = closed(table, [x])
                cosets = left_cosets(group, members)
                expected = {tuple(sorted(table[y][h] for h in members)) for y in range(order)}
                self.assertEqual(cosets, [list(coset) for coset in sorted(expected)])
                self.assertEqual(sorted(sum(cosets, [])), list(range(order)))

    def test_left_and_not_right(self):
        table = SMALL["symmetric"]
        group = Group(table)
        left = left_cosets(group, [0, 1])
        right = sorted({tuple(sorted(table[h][y] for h in (0, 1))) for y in range(6)})
        self.assertNotEqual(left, [list(coset) for coset in right])
        self.assertIn(sorted([2, table[2][1]]), left)

    def test_known_cosets(self):
        group = Group(cyclic_table(6))
        self.assertEqual(left_cosets(group, [0, 3]), [[0, 3], [1, 4], [2, 5]])
        self.assertEqual(left_cosets(group, [0]), [[0], [1], [2], [3], [4], [5]])
        self.assertEqual(left_cosets(group, [0, 1, 2, 3, 4, 5]), [[0, 1, 2, 3, 4, 5]])

    def test_the_lists_are_new(self):
        group = Group(cyclic_table(4))
        members = [0, 2]
        cosets = left_cosets(group, members)
        cosets[0].append(9)
        cosets.pop()
        self.assertEqual(members, [0, 2])
        self.assertEqual(left_cosets(group, members), [[0, 2], [1, 3]])


class SeriesTest(unittest.TestCase):
    def test_against_the_definitions(self):
        for table in ALL.values():
            group, order = Group(table), range(len(table))
            commutators = {commutator(table, x, y) for x in order for y in order}
            self.assertEqual(commutator_subgroup(group), closed(table, commutators))
            expected = [x for x in order if all(table[x][y] == table[y][x] for y in order)]
            self.assertEqual(center(group), expected)
            series = lower_series(group)
            self.assertEqual(series[0], list(order))
            for at, members in enumerate(series):
                found = {commutator(table, x, y) for x in members for y in order}
                following = closed(table, found)
                if at + 1 < len(series):
                    self.assertEqual(series[at + 1], following)
                    self.assertNotEqual(following, members)
                else:
                    self.assertEqual(following, members)

    def test_known_series(self):
        self.assertEqual(lower_series(Group([[0]])), [[0]])
        self.assertEqual(lower_series(Group(cyclic_table(4))), [[0, 1, 2, 3], [0]])
        symmetric = Group(SMALL["symmetric"])
        self.assertEqual(lower_series(symmetric), [[0, 1, 2, 3, 4, 5], [0, 3, 4]])
        self.assertEqual(commutator_subgroup(symmetric), [0, 3, 4])
        self.assertEqual(center(symmetric), [0])
        sizes = [len(members) for members in lower_series(Group(LARGE["sixteen corners"]))]
        self.assertEqual(sizes, [32, 8, 4, 2, 1])
        sizes = [len(members) for members in lower_series(Group(LARGE["four points"]))]
        self.assertEqual(sizes, [24, 12])
        self.assertEqual(len(commutator_subgroup(Group(LARGE["four points"]))), 12)
        self.assertEqual(center(Group(SMALL["klein"])), [0, 1, 2, 3])
        self.assertEqual(len(center(Group(SMALL["quaternion"]))), 2)
        self.assertEqual(len(center(Group(LARGE["quaternions"]))), 8)

    def test_members_lie_in_the_power_lattices(self):
        for name in ("symmetric", "square", "quaternion", "alternating"):
            group = Group(SMALL[name])
            series = lower_series(group)
            for modulus in (2, 3, 4, 12):
                for k, members in enumerate([*series, series[-1], series[-1]], 1):
                    lattice = power_lattice(group, k, modulus)
                    for x in members:
                        difference = [0] * group.order
                        difference[x] += 1
                        difference[0] -= 1
                        self.assertTrue(lattice.contains(difference))

    def test_the_lists_are_new(self):
        group = Group(SMALL["symmetric"])
        lower_series(group)[0].clear()
        lower_series(group).clear()
        commutator_subgroup(group).clear()
        center(group).clear()
        normal_closure(group, [1]).clear()
        self.assertEqual(lower_series(group), [[0, 1, 2, 3, 4, 5], [0, 3, 4]])
        self.assertEqual(commutator_subgroup(group), [0, 3, 4])
        self.assertEqual(center(group), [0])


if __name__ == "__main__":
    unittest.main()
