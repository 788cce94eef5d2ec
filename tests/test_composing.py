import unittest
from itertools import product

from samples import (
    CASES,
    LARGE,
    SMALL,
    WRONG,
    RaisesTest,
    case_objects,
    degrees_of_case,
    numbered_map,
    values_of,
)
from stepsvanish.building import cyclic
from stepsvanish.composing import compose, indicator
from stepsvanish.degrees import degree
from stepsvanish.errors import InvalidElement, InvalidValue, Mismatch
from stepsvanish.groups import Group
from stepsvanish.growth import greatest_degree
from stepsvanish.maps import GroupMap
from stepsvanish.pairings import Pairing
from stepsvanish.pairings import product as product_of
from stepsvanish.residuals import all_have_degree
from stepsvanish.targets import Target


def map_on(target, moduli, salt):
    """Some map from the target as a group."""
    return numbered_map(target.as_group().rows, moduli, salt)


class ComposeTest(RaisesTest):
    def test_by_positions(self):
        for table in (*SMALL.values(), *LARGE.values()):
            for moduli in ((), (2,), (6,), (2, 3), (4, 4), (32,)):
                f = numbered_map(table, moduli, 1)
                values = values_of(moduli)
                for others in ((), (5,), (4, 2)):
                    g = map_on(f.target, others, 2)
                    kept = (f.images, g.images)
                    found = compose(f, g)
                    self.assertIs(found.__class__, GroupMap)
                    self.assertTrue(found.group == f.group and found.target == g.target)
                    expected = [g.images[values.index(value)] for value in f.images]
                    self.assertEqual(list(found), expected)
                    self.assertEqual((f.images, g.images), kept)

    def test_by_hand(self):
        f = GroupMap(cyclic(3), Target([2, 2]), [(0, 0), (1, 0), (1, 1)])
        g = GroupMap.from_parts(f.target.as_group(), Target([7]), [[6, 5, 4, 3]])
        self.assertEqual(compose(f, g).images, ((6,), (4,), (3,)))

    def test_associativity(self):
        for name in ("one", "four", "symmetric", "quaternion"):
            for first, second, third in product(((), (4,), (2, 3)), repeat=3):
                f = numbered_map(SMALL[name], first, 1)
                g = map_on(f.target, second, 2)
                h = map_on(g.target, third, 3)
                self.assertTrue(compose(compose(f, g), h) == compose(f, compose(g, h)))

    def test_mismatch(self):
        f = numbered_map(SMALL["symmetric"], (4,), 1)
        compose(f, numbered_map(SMALL["four"], (3,), 1))
        for table in (SMALL["klein"], SMALL["two"], SMALL["eight"], SMALL["symmetric"]):
            self.refused(Mismatch, compose, f, numbered_map(table, (3,), 1))
        # The same group with its elements in another order.
        other = [[0, 1, 2, 3], [1, 0, 3, 2], [2, 3, 1, 0], [3, 2, 0, 1]]
        self.refused(Mismatch, compose, f, numbered_map(other, (3,), 1))
        f = numbered_map(SMALL["symmetric"], (2, 3), 1)
        self.refused(Mismatch, compose, f, numbered_map(SMALL["six"], (3,), 1))
        f = numbered_map(SMALL["symmetric"], (), 1)
        self.refused(Mismatch, compose, f, numbered_map(SMALL["two"], (3,), 1))
        compose(f, numbered_map(SMALL["one"], (3,), 1))

    def test_degrees(self):
        for name, moduli, table, others in (
            ("four", (4,), SMALL["four"], (2,)),
            ("klein", (2,), SMALL["two"], (4,)),
            ("three", (3,), SMALL["three"], (9,)),
            ("symmetric", (2,), SMALL["two"], (8,)),
            ("quaternion", (2,), SMALL["two"], (4,)),
            ("two", (2, 4), None, (2,)),
        ):
            group, target = case_objects(name, moduli)
            table = table or target.as_group().rows
            found = degrees_of_case(name, moduli)
            seconds = [numbered_map(table, others, salt) for salt in range(4)]
            for images, c in list(found.items())[::5]:
                for g in seconds:
                    if c is None or degree(g) is None:
                        continue
                    result = degree(compose(GroupMap(group, target, list(images)), g))
                    self.assertIsNotNone(result)
                    self.assertLessEqual(result, max(c, 0) * max(degree(g), 0))


class IndicatorTest(RaisesTest):
    def test_images(self):
        for table in (*SMALL.values(), *LARGE.values()):
            group = Group(table)
            for moduli in ((), (2,), (4, 6)):
                target = Target(list(moduli))
                for value in target.all_values()[::5]:
                    for places in ([], [group.order - 1], list(range(group.order))[::-1]):
                        kept = list(places)
                        f = indicator(group, target, places, value)
                        self.assertIs(f.__class__, GroupMap)
                        self.assertTrue(f.group == group and f.target == target)
                        for x in range(group.order):
                            self.assertEqual(f(x), value if x in places else target.zero)
                        self.assertEqual(places, kept)

    def test_no_place_and_all(self):
        group, target = Group(SMALL["symmetric"]), Target([5, 2])
        self.assertTrue(indicator(group, target, [], (4, 1)).is_zero())
        found = indicator(group, target, [3, 0, 1, 2, 5, 4], (4, 1))
        self.assertTrue(found == GroupMap.constant(group, target, (4, 1)))

    def test_errors(self):
        for group in (cyclic(1), Group(SMALL["symmetric"])):
            for target, right, wrongs in (
                (Target([]), (), [(0,)]),
                (Target([2, 3]), (1, 2), [(), (1,), (2, 0), (0, 3), (-1, 0), (0, -1), (0, 0, 0)]),
            ):
                for wrong in wrongs:
                    for places in ([], [0], [group.order - 1]):
                        self.refused(InvalidValue, indicator, group, target, places, wrong)
                for place in (*WRONG, group.order):
                    for places in ([place], [0, place], [place, 0]):
                        for value in (right, *wrongs):
                            self.refused(InvalidElement, indicator, group, target, places, value)


class FactsTest(RaisesTest):
    def test_composition_with_an_indicator(self):
        for name in ("four", "symmetric", "square", "nine"):
            for moduli in ((3,), (2, 2)):
                f = numbered_map(SMALL[name], moduli, 1)
                group, target = f.target.as_group(), Target([4, 3])
                for positions in ([], [0], [2, 1], list(range(group.order))):
                    g = indicator(group, target, positions, (3, 2))
                    places = [
                        x for x in range(f.group.order) if f.target.position(f(x)) in positions
                    ]
                    expected = indicator(f.group, target, places, (3, 2))
                    self.assertTrue(compose(f, g) == expected)

    def test_product_of_indicators(self):
        pairing = Pairing(Target([4]), Target([2, 6]), Target([2]), [[(0,), (1,)]])
        for table in (SMALL["four"], SMALL["symmetric"]):
            group = Group(table)
            for first, second in product(([], [1], [3, 0, 1], list(range(group.order))), repeat=2):
                f = indicator(group, pairing.left, first, (3,))
                g = indicator(group, pairing.right, second, (1, 5))
                common = [x for x in first if x in second]
                expected = indicator(group, pairing.result, common, (1,))
                self.assertTrue(product_of(f, g, pairing) == expected)

    def test_indicators_of_single_places(self):
        met = 0
        for name, moduli in [*CASES, ("eight", (8,)), ("nine", (9,)), ("quaternion", (4,))]:
            group, target = case_objects(name, moduli)
            if len(moduli) == 1 and all_have_degree(group, target):
                met += 1
                for x in range(group.order):
                    f = indicator(group, target, [x], (1,))
                    self.assertEqual(degree(f), greatest_degree(group, target))
        self.assertGreater(met, 10)


if __name__ == "__main__":
    unittest.main()
