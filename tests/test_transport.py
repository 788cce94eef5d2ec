import unittest
from itertools import product

from samples import (
    LARGE,
    SMALL,
    WRONG,
    RaisesTest,
    cyclic_table,
    numbered_map,
    product_table,
)
from stepsvanish.building import cyclic, direct_product, subgroup_as_group
from stepsvanish.degrees import degree
from stepsvanish.errors import (
    InvalidElement,
    InvalidTarget,
    InvalidVector,
    LimitExceeded,
    Mismatch,
    NotHomomorphism,
)
from stepsvanish.groups import Group
from stepsvanish.listing import maps_up_to
from stepsvanish.maps import GroupMap
from stepsvanish.targets import Target
from stepsvanish.transport import external_product, external_sum, pull_back, push_forward


def homomorphisms(group, other):
    """All homomorphisms, by going through the images of the generators."""
    for chosen in product(range(other.order), repeat=len(group.generators())):
        images = [None] * group.order
        images[0] = 0
        reached = [0]
        for x in reached:
            for generator, image in zip(group.generators(), chosen):
                y = group.multiply(x, generator)
                if images[y] is None:
                    images[y] = other.multiply(images[x], image)
                    reached.append(y)
        pairs = product(range(group.order), repeat=2)
        if all(images[group.multiply(x, y)] == other.multiply(images[x], images[y]) for x, y in pairs):
            yield images


PAIRS = [
    ("one", "three"),
    ("three", "one"),
    ("two", "four"),
    ("four", "two"),
    ("six", "three"),
    ("six", "symmetric"),
    ("symmetric", "two"),
    ("quaternion", "klein"),
    ("square", "square"),
    ("alternating", "three"),
    ("klein", "six"),
]


class PullBackTest(RaisesTest):
    def test_all_homomorphisms(self):
        for first, second in PAIRS:
            group, other = Group(SMALL[first]), Group(SMALL[second])
            for images in homomorphisms(group, other):
                for moduli in ((), (2,), (4, 3)):
                    f = numbered_map(other.rows, moduli, 1)
                    kept = list(images)
                    result = pull_back(f, group, images)
                    self.assertEqual(images, kept)
                    self.assertIs(result.__class__, GroupMap)
                    self.assertTrue(result.group == group and result.target == f.target)
                    for x in range(group.order):
                        self.assertEqual(result(x), f(images[x]))

    def test_degrees(self):
        for first, second in PAIRS:
            group, other = Group(SMALL[first]), Group(SMALL[second])
            for images in homomorphisms(group, other):
                onto = sorted(set(images)) == list(range(other.order))
                for moduli in ((2,), (3,), (4,)):
                    for salt in range(3):
                        f = numbered_map(other.rows, moduli, salt)
                        before, after = degree(f), degree(pull_back(f, group, images))
                        if onto:
                            self.assertEqual(after, before)
                        elif before is not None:
                            self.assertLessEqual(after, before)

    def test_errors(self):
        f = numbered_map(SMALL["four"], (4,), 1)
        group = cyclic(2)
        self.assertEqual(pull_back(f, group, [0, 2]).images, (f(0), f(2)))
        for images in ([], [0], [0, 2, 0], [0, 9, 9], [9]):
            self.refused(InvalidVector, pull_back, f, group, images)
        for wrong in (*WRONG, 4):
            for images in ([0, wrong], [wrong, 2], [3, wrong]):
                self.refused(InvalidElement, pull_back, f, group, images)
        for images in ([0, 1], [2, 0], [1, 1], [0, 3]):
            self.refused(NotHomomorphism, pull_back, f, group, images)

    def test_a_noncommutative_group(self):
        group = Group(SMALL["symmetric"])
        f = numbered_map(group.rows, (5,), 1)
        for x in range(6):
            # Conjugation keeps products; the inverses turn them around.
            images = [group.multiply(group.multiply(x, y), group.inverse(x)) for y in range(6)]
            self.assertEqual(pull_back(f, group, images)(3), f(images[3]))
        self.refused(NotHomomorphism, pull_back, f, group, list(group.inverses))
        self.refused(NotHomomorphism, push_forward, f, group, list(group.inverses))


class PushForwardTest(RaisesTest):
    def test_all_homomorphisms(self):
        for first, second in PAIRS:
            group, other = Group(SMALL[first]), Group(SMALL[second])
            for images in homomorphisms(group, other):
                for moduli in ((), (2,), (4, 3)):
                    f = numbered_map(group.rows, moduli, 1)
                    kept = list(images)
                    result = push_forward(f, other, images)
                    self.assertEqual(images, kept)
                    self.assertTrue(result.group == other and result.target == f.target)
                    for y in range(other.order):
                        expected = [0] * len(moduli)
                        for x, image in enumerate(images):
                            if image == y:
                                expected = [a + b for a, b in zip(expected, f(x))]
                        expected = tuple(a % m for a, m in zip(expected, moduli))
                        self.assertEqual(result(y), expected)

    def test_members_without_a_preimage(self):
        f = GroupMap.constant(cyclic(2), Target([5]), (3,))
        self.assertEqual(push_forward(f, cyclic(4), [0, 2]).images, ((3,), (0,), (3,), (0,)))
        self.assertEqual(push_forward(f, cyclic(4), [0, 0]).images, ((1,), (0,), (0,), (0,)))

    def test_degrees(self):
        for first, second, images, modulus in [
            ("four", "two", [0, 1, 0, 1], 2),
            ("four", "two", [0, 1, 0, 1], 4),
            ("quaternion", "two", None, 2),
            ("klein", "two", [0, 1, 0, 1], 4),
        ]:
            group, other, target = Group(SMALL[first]), Group(SMALL[second]), Target([modulus])
            if images is None:
                found = homomorphisms(group, other)
                images = [h for h in found if 1 in h][0]
            members = [x for x in range(group.order) if images[x] == 0]
            kernel, _ = subgroup_as_group(group, members)
            c = -1
            while all(f.evaluate([1] * kernel.order) == (0,) for f in maps_up_to(kernel, target, c + 1)):
                c += 1
            for f in maps_up_to(group, target, 3):
                d, result = degree(f), push_forward(f, other, images)
                if c >= d:
                    self.assertTrue(result.is_zero())
                else:
                    self.assertLessEqual(degree(result), d - c - 1)

    def test_errors(self):
        f = numbered_map(SMALL["two"], (4,), 1)
        group = cyclic(4)
        for images in ([], [0], [0, 2, 0], [0, 9, 9], [9]):
            self.refused(InvalidVector, push_forward, f, group, images)
        for wrong in (*WRONG, 4):
            for images in ([0, wrong], [wrong, 2], [3, wrong]):
                self.refused(InvalidElement, push_forward, f, group, images)
        for images in ([0, 1], [2, 0], [1, 1], [0, 3]):
            self.refused(NotHomomorphism, push_forward, f, group, images)


class ExternalTest(RaisesTest):
    def test_sums_and_products(self):
        for first, second in (("one", "six"), ("two", "symmetric"), ("symmetric", "four"), ("three", "three")):
            for moduli in ((), (2,), (9,), (2, 4)):
                f = numbered_map(SMALL[first], moduli, 1)
                g = numbered_map(SMALL[second], moduli, 3)
                n = g.group.order
                both = Group(product_table(SMALL[first], SMALL[second]))
                result = external_sum(f, g)
                self.assertIs(result.__class__, GroupMap)
                self.assertTrue(result.group == both and result.target == f.target)
                for x in range(f.group.order):
                    for y in range(n):
                        expected = f.target.plus(f(x), g(y))
                        self.assertEqual(result(x * n + y), expected)
                if len(moduli) != 1:
                    self.refused(InvalidTarget, external_product, f, g)
                    continue
                result = external_product(f, g)
                self.assertTrue(result.group == both and result.target == f.target)
                for x in range(f.group.order):
                    for y in range(n):
                        expected = (f(x)[0] * g(y)[0] % moduli[0],)
                        self.assertEqual(result(x * n + y), expected)

    def test_the_group_is_the_direct_product(self):
        f, g = numbered_map(SMALL["symmetric"], (3,), 1), numbered_map(SMALL["four"], (3,), 1)
        for result in (external_sum(f, g), external_product(f, g)):
            self.assertTrue(result.group == direct_product(f.group, g.group))

    def test_degrees(self):
        for first, second, modulus in [
            ("two", "two", 2),
            ("two", "four", 2),
            ("four", "two", 4),
            ("three", "three", 3),
            ("two", "three", 3),
            ("symmetric", "two", 2),
            ("two", "two", 6),
        ]:
            target = Target([modulus])
            maps = []
            for name in (first, second):
                group = Group(SMALL[name])
                everything = product(range(modulus), repeat=group.order)
                found = [GroupMap.from_parts(group, target, [list(v)]) for v in everything]
                maps.append([(f, degree(f)) for f in found[:: max(1, len(found) // 25)]])
            for f, c in maps[0]:
                for g, d in maps[1]:
                    self.check_degrees(f, c, g, d, modulus in (2, 3))

    def check_degrees(self, f, c, g, d, is_prime):
        found = degree(external_sum(f, g))
        if c is None or d is None:
            self.assertIsNone(found)
        elif max(c, d) >= 1:
            self.assertEqual(found, max(c, d))
        found = degree(external_product(f, g))
        if f.is_zero() or g.is_zero():
            self.assertEqual(found, -1)
        elif c is None or d is None:
            if is_prime:
                self.assertIsNone(found)
        elif is_prime:
            self.assertEqual(found, c + d)
        else:
            self.assertLessEqual(found, c + d)

    def test_the_order_of_the_errors(self):
        many = Group(LARGE["cyclic"])
        f = numbered_map(many.rows, (2, 2), 1)
        g = numbered_map(cyclic_table(2), (4,), 1)
        self.refused(Mismatch, external_sum, f, g)
        self.refused(Mismatch, external_product, f, g)
        self.refused(Mismatch, external_sum, g, numbered_map(cyclic_table(2), (3,), 1))
        same = numbered_map(cyclic_table(2), (2, 2), 1)
        self.refused(InvalidTarget, external_product, f, same)
        self.refused(LimitExceeded, external_sum, f, same)
        self.refused(LimitExceeded, external_sum, same, f)
        one = numbered_map(many.rows, (4,), 1)
        self.refused(LimitExceeded, external_sum, one, g)
        self.refused(LimitExceeded, external_product, one, g)
        third = numbered_map(cyclic_table(11), (4,), 1)
        self.refused(LimitExceeded, external_product, numbered_map(cyclic_table(3), (4,), 1), third)
        none = numbered_map(cyclic_table(2), (), 1)
        self.refused(InvalidTarget, external_product, none, none)
        self.assertEqual(external_sum(none, none).images, ((),) * 4)
        single = numbered_map(cyclic_table(1), (4,), 1)
        self.assertEqual(external_sum(one, single).group.order, 32)


if __name__ == "__main__":
    unittest.main()
