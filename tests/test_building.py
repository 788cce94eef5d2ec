import unittest
from itertools import permutations as arrangements
from itertools import product

from samples import LARGE, SMALL, WRONG, RaisesTest, cyclic_table, product_table, symmetric_table
from stepsvanish.building import (
    cyclic,
    direct_product,
    from_permutations,
    is_homomorphism,
    quotient,
    subgroup_as_group,
)
from stepsvanish.errors import (
    InvalidElement,
    InvalidGroup,
    InvalidVector,
    LimitExceeded,
    NotNormal,
    NotSubgroup,
)
from stepsvanish.groups import Group
from stepsvanish.subgroups import is_normal, left_cosets



def turn(points):
    return [(i + 1) % points for i in range(points)]


def flip(points):
    return [(-i) % points for i in range(points)]


class CyclicTest(RaisesTest):
    def test_orders(self):
        for order in range(1, 33):
            group = cyclic(order)
            self.assertIs(group.__class__, Group)
            self.assertTrue(group == Group(cyclic_table(order)))

    def test_wrong_orders(self):
        for order in (0, -1, -33, -(10**5000)):
            self.refused(InvalidGroup, cyclic, order)
        for order in (33, 34, 64, 10**5000):
            self.refused(LimitExceeded, cyclic, order)


class PermutationsTest(RaisesTest):
    def check(self, permutations, points, order):
        kept = [list(p) for p in permutations]
        answer = from_permutations(permutations, points=points)
        self.assertIsInstance(answer, tuple)
        group, collected = answer
        self.assertEqual(permutations, kept)
        self.assertEqual(group.order, order)
        self.assertEqual(len(collected), order)
        self.assertEqual(collected, sorted(collected))
        self.assertEqual(collected[0], list(range(points)))
        for p in permutations:
            self.assertIn(p, collected)
        for x, p in enumerate(collected):
            self.assertIsInstance(p, list)
            for y, q in enumerate(collected):
                expected = [q[p[i]] for i in range(points)]
                self.assertEqual(collected[group.multiply(x, y)], expected)

    def test_groups(self):
        self.check([], 0, 1)
        self.check([[]], 0, 1)
        self.check([[], []], 0, 1)
        self.check([], 1, 1)
        self.check([[0]], 1, 1)
        self.check([], 5, 1)
        self.check([[0, 1, 2]], 3, 1)
        self.check([[1, 0, 2], [0, 2, 1]], 3, 6)
        self.check([[1, 0, 2], [0, 2, 1], [1, 0, 2], [0, 1, 2]], 3, 6)
        self.check([list(p) for p in arrangements(range(4))], 4, 24)
        self.check([turn(12)], 12, 12)
        self.check([turn(12), flip(12)], 12, 24)
        # Cycles of 4 and 8 points side by side: 4 and 8 turns, 32 pairs.
        four = [1, 2, 3, 0, *range(4, 12)]
        eight = [*range(4), 5, 6, 7, 8, 9, 10, 11, 4]
        self.check([four, eight], 12, 32)
        self.check([eight, four, eight], 12, 32)

    def test_products_are_read_from_left_to_right(self):
        group, collected = from_permutations([[1, 0, 2], [0, 2, 1]], points=3)
        x, y = collected.index([1, 0, 2]), collected.index([0, 2, 1])
        self.assertEqual(collected[group.multiply(x, y)], [2, 0, 1])
        self.assertEqual(collected[group.multiply(y, x)], [1, 2, 0])
        self.assertTrue(group == Group(symmetric_table(3)))

    def test_only_the_products_are_collected(self):
        group, collected = from_permutations([[2, 0, 1]], points=3)
        self.assertEqual(collected, [[0, 1, 2], [1, 2, 0], [2, 0, 1]])
        self.assertTrue(group == Group(cyclic_table(3)))

    def test_the_lists_are_copies(self):
        permutations = [[1, 0]]
        _, collected = from_permutations(permutations, points=2)
        collected[1][0] = 7
        collected[0].clear()
        self.assertEqual(permutations, [[1, 0]])
        self.assertEqual(from_permutations(permutations, points=2)[1], [[0, 1], [1, 0]])

    def test_lists_that_are_no_permutations(self):
        for wrong in (
            [],
            [0],
            [0, 1],
            [0, 1, 2, 3],
            [0, 0, 1],
            [0, 1, 1],
            [1, 2, 3],
            [0, 1, 3],
            [-1, 0, 1],
            [0, 1, -1],
            [0, 1, 10**5000],
        ):
            self.refused(InvalidGroup, from_permutations, [wrong], points=3)
            self.refused(InvalidGroup, from_permutations, [[1, 2, 0], wrong], points=3)
            self.refused(InvalidGroup, from_permutations, [wrong, [1, 2, 0]], points=3)
        self.refused(InvalidGroup, from_permutations, [[0]], points=0)

    def test_too_many_products(self):
        swap = [1, 0, 2, 3, 4]
        self.refused(LimitExceeded, from_permutations, [turn(5), swap], points=5)
        # Cycles of 5 and 7 points have 35 products, cycles of 3 and 11 points 33.
        for first, second in ((5, 7), (3, 11)):
            wheel = turn(first) + [first + i for i in turn(second)]
            self.refused(LimitExceeded, from_permutations, [wheel], points=first + second)
        many = [list(p) for p in arrangements(range(5))]
        self.refused(LimitExceeded, from_permutations, many, points=5)
        # A list that is no permutation comes first, also behind the others.
        self.refused(InvalidGroup, from_permutations, [turn(5), swap, [0]], points=5)
        self.refused(InvalidGroup, from_permutations, [*many, [0, 1, 2, 3, 3]], points=5)


class DirectProductTest(RaisesTest):
    def test_no_group_and_one_group(self):
        self.assertTrue(direct_product() == Group([[0]]))
        for table in (*SMALL.values(), *LARGE.values()):
            self.assertTrue(direct_product(Group(table)) == Group(table))

    def test_two_groups(self):
        for left in ("one", "two", "three", "symmetric", "four"):
            for right in ("one", "two", "three", "klein"):
                both = direct_product(Group(SMALL[left]), Group(SMALL[right]))
                self.assertIs(both.__class__, Group)
                self.assertTrue(both == Group(product_table(SMALL[left], SMALL[right])))

    def test_three_groups(self):
        groups = [Group(SMALL[name]) for name in ("two", "symmetric", "two")]
        result = direct_product(*groups)
        members = list(product(*[range(group.order) for group in groups]))
        for x, left in enumerate(members):
            for y, right in enumerate(members):
                entries = [g.multiply(a, b) for g, a, b in zip(groups, left, right)]
                self.assertEqual(members[result.multiply(x, y)], tuple(entries))

    def test_orders(self):
        self.assertEqual(direct_product(*[cyclic(2)] * 5).order, 32)
        self.assertEqual(direct_product(*[cyclic(1)] * 50).order, 1)
        self.assertEqual(direct_product(cyclic(4), cyclic(8)).order, 32)
        self.refused(LimitExceeded, direct_product, cyclic(3), cyclic(11))
        self.refused(LimitExceeded, direct_product, *[cyclic(2)] * 6)
        self.refused(LimitExceeded, direct_product, cyclic(32), cyclic(32))
        self.refused(LimitExceeded, direct_product, cyclic(32), cyclic(1), cyclic(2))


class QuotientTest(RaisesTest):
    def test_quotients(self):
        for table in (*SMALL.values(), *LARGE.values()):
            group, order = Group(table), len(table)
            for x in range(order):
                members = group.generated([x])
                if not is_normal(group, members):
                    continue
                answer = quotient(group, members)
                self.assertIsInstance(answer, tuple)
                result, projection = answer
                cosets = left_cosets(group, members)
                self.assertEqual(result.order, len(cosets))
                self.assertIsInstance(projection, list)
                for y in range(order):
                    self.assertIn(y, cosets[projection[y]])
                self.assertTrue(is_homomorphism(group, result, projection))

    def test_known_quotients(self):
        result, projection = quotient(Group(cyclic_table(6)), [0, 3])
        self.assertTrue(result == Group(cyclic_table(3)))
        self.assertEqual(projection, [0, 1, 2, 0, 1, 2])
        result, projection = quotient(Group(SMALL["symmetric"]), [0, 3, 4])
        self.assertTrue(result == Group(cyclic_table(2)))
        self.assertEqual(projection, [0, 1, 1, 0, 0, 1])
        group = Group(SMALL["quaternion"])
        result, projection = quotient(group, [0])
        self.assertTrue(result == group)
        self.assertEqual(projection, list(range(8)))
        result, projection = quotient(group, list(range(8)))
        self.assertTrue(result == Group([[0]]))
        self.assertEqual(projection, [0] * 8)

    def test_errors_in_their_order(self):
        group = Group(SMALL["symmetric"])
        for wrong in (*WRONG, 6):
            for members in ([wrong], [0, wrong], [0, 1, wrong], [wrong, 1, 0], [1, 1, wrong]):
                self.refused(InvalidElement, quotient, group, members)
        for members in ([], [1], [1, 0], [0, 0], [0, 1, 1], [0, 1, 2], [0, 4, 3], [0, 3]):
            self.refused(NotSubgroup, quotient, group, members)
        for members in ([0, 1], [0, 2], [0, 5]):
            self.refused(NotNormal, quotient, group, members)

    def test_the_lists_are_the_callers_own(self):
        group, members = Group(cyclic_table(4)), [0, 2]
        _, projection = quotient(group, members)
        projection.clear()
        self.assertEqual(members, [0, 2])
        self.assertEqual(quotient(group, members)[1], [0, 1, 0, 1])


class SubgroupAsGroupTest(RaisesTest):
    def test_subgroups(self):
        for table in (*SMALL.values(), *LARGE.values()):
            group, order = Group(table), len(table)
            for x in range(order):
                members = group.generated([x, x // 2])
                answer = subgroup_as_group(group, members)
                self.assertIsInstance(answer, tuple)
                result, inclusion = answer
                self.assertEqual(inclusion, members)
                self.assertEqual(result.order, len(members))
                for i, left in enumerate(members):
                    for j, right in enumerate(members):
                        at = result.multiply(i, j)
                        self.assertEqual(members[at], table[left][right])
                self.assertTrue(is_homomorphism(result, group, inclusion))

    def test_a_subgroup_that_is_not_normal(self):
        result, inclusion = subgroup_as_group(Group(SMALL["symmetric"]), [0, 5])
        self.assertTrue(result == Group(cyclic_table(2)))
        self.assertEqual(inclusion, [0, 5])

    def test_errors(self):
        group = Group(SMALL["symmetric"])
        for wrong in (*WRONG, 6):
            for members in ([wrong], [0, wrong], [1, 0, wrong]):
                self.refused(InvalidElement, subgroup_as_group, group, members)
        for members in ([], [1], [1, 0], [0, 0], [0, 1, 2], [0, 4, 3]):
            self.refused(NotSubgroup, subgroup_as_group, group, members)

    def test_the_inclusion_is_new(self):
        members = [0, 2]
        _, inclusion = subgroup_as_group(Group(cyclic_table(4)), members)
        inclusion.append(3)
        self.assertEqual(members, [0, 2])
        members.append(3)
        self.assertEqual(inclusion, [0, 2, 3])


class HomomorphismTest(RaisesTest):
    def test_every_list_between_small_groups(self):
        for left, right in (("four", "two"), ("klein", "two"), ("three", "symmetric"), ("one", "four")):
            table, other = SMALL[left], SMALL[right]
            places = range(len(table))
            for images in product(range(len(other)), repeat=len(table)):
                expected = all(
                    images[table[x][y]] == other[images[x]][images[y]]
                    for x in places
                    for y in places
                )
                answer = is_homomorphism(Group(table), Group(other), list(images))
                self.assertIs(answer, expected)

    def test_known_homomorphisms(self):
        symmetric, two = Group(SMALL["symmetric"]), cyclic(2)
        self.assertIs(is_homomorphism(symmetric, two, [0, 1, 1, 0, 0, 1]), True)
        self.assertIs(is_homomorphism(symmetric, two, [0, 1, 1, 0, 1, 1]), False)
        self.assertIs(is_homomorphism(symmetric, two, [1] * 6), False)
        self.assertIs(is_homomorphism(symmetric, symmetric, list(range(6))), True)
        self.assertIs(is_homomorphism(two, symmetric, [0, 5]), True)
        # Inverting reverses products, so it is one for commutative groups only.
        self.assertIs(is_homomorphism(symmetric, symmetric, list(symmetric.inverses)), False)
        self.assertIs(is_homomorphism(cyclic(9), cyclic(9), list(cyclic(9).inverses)), True)

    def test_errors_in_their_order(self):
        group, other = cyclic(3), cyclic(2)
        for images in ([], [0, 0], [0, 0, 0, 0], [2], [0, 0, 0, -1]):
            self.refused(InvalidVector, is_homomorphism, group, other, images)
        for wrong in (*WRONG, 2):
            for at in range(3):
                images = [1, 1, 1]
                images[at] = wrong
                self.refused(InvalidElement, is_homomorphism, group, other, images)

    def test_the_images_are_not_modified(self):
        images = [0, 1, 0, 1]
        is_homomorphism(cyclic(4), cyclic(2), images)
        self.assertEqual(images, [0, 1, 0, 1])


if __name__ == "__main__":
    unittest.main()
