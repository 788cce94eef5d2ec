import unittest
from itertools import combinations, islice, product

from samples import (
    CASES,
    HUGE,
    LARGE,
    SMALL,
    WRONG,
    RaisesTest,
    case_objects,
    cyclic_table,
    degrees_of_case,
    listed_images,
    numbered_map,
    values_of,
)
from stepsvanish.building import cyclic
from stepsvanish.degrees import degree
from stepsvanish.errors import InvalidElement, InvalidIndex, InvalidValue, InvalidVector
from stepsvanish.groups import Group
from stepsvanish.listing import map_at, number_of_maps
from stepsvanish.maps import GroupMap
from stepsvanish.partial import (
    extension,
    extension_at,
    extension_count,
    extensions,
    first_conflict,
    is_refutation,
    least_bound,
    refutation,
    restricted,
)
from stepsvanish.powers import power_lattice
from stepsvanish.targets import Target

BOUNDS = (-1, 0, 1, 2, HUGE)


def partials_of(name, moduli, many):
    """Partial maps: none and all given, and some that are spread over all others."""
    order, values = len(SMALL[name]), values_of(moduli)
    yield [None] * order
    yield [values[0]] * order
    yield [values[-1]] * order
    entries = [None, *values]
    number = len(entries) ** order
    for at in range(many):
        rest = number * at // many + at * at
        partial = []
        for _ in range(order):
            partial.append(entries[rest % len(entries)])
            rest //= len(entries)
        yield partial


def agreeing(images, partial):
    return all(entry is None or entry == value for entry, value in zip(partial, images))


def cases(many=25):
    for name, moduli in CASES:
        group, target = case_objects(name, moduli)
        for bound in BOUNDS:
            listed = listed_images(name, moduli, bound)
            for partial in partials_of(name, moduli, many):
                yield group, target, bound, partial, [f for f in listed if agreeing(f, partial)]


class RestrictedTest(RaisesTest):
    def test_places(self):
        for moduli in ((), (4,), (2, 3)):
            f = numbered_map(SMALL["symmetric"], moduli, 1)
            for places in ([], [0], [5, 2], [3, 1, 4, 0, 2, 5]):
                kept = list(places)
                found = restricted(f, places)
                self.assertIsInstance(found, list)
                self.assertEqual(found, [f(x) if x in places else None for x in range(6)])
                self.assertEqual(places, kept)

    def test_wrong_places(self):
        for table in (SMALL["one"], SMALL["symmetric"]):
            f = numbered_map(table, (4,), 1)
            for wrong in (*WRONG, len(table)):
                for places in ([wrong], [0, wrong], [wrong, 0]):
                    self.refused(InvalidElement, restricted, f, places)


class ExtensionTest(RaisesTest):
    def test_first_and_number(self):
        for group, target, bound, partial, expected in cases():
            kept = list(partial)
            f = extension(group, target, bound, partial)
            if expected:
                self.assertIs(f.__class__, GroupMap)
                self.assertTrue(f.group == group and f.target == target)
                self.assertEqual(f.images, expected[0])
            else:
                self.assertIsNone(f)
            self.assertEqual(extension_count(group, target, bound, partial), len(expected))
            self.assertEqual(partial, kept)

    def test_all_extensions(self):
        for group, target, bound, partial, expected in cases(10):
            found = [f.images for f in extensions(group, target, bound, partial)]
            self.assertEqual(found, expected)

    def test_positions(self):
        for group, target, bound, partial, expected in cases(12):
            for position in {0, len(expected) // 2, len(expected) - 1}:
                if expected:
                    f = extension_at(group, target, bound, partial, position)
                    self.assertEqual(f.images, expected[position])
            for wrong in (-1, len(expected), len(expected) + 1, HUGE**3, -(10**5000)):
                self.refused(InvalidIndex, extension_at, group, target, bound, partial, wrong)

    def test_stopped_early(self):
        for name, table in LARGE.items():
            group, target = Group(table), Target([2, 8])
            f = map_at(group, target, 3, number_of_maps(group, target, 3) * 2 // 3)
            partial = restricted(f, [31 % group.order, 3, 7])
            number = extension_count(group, target, HUGE, partial)
            self.assertGreater(number, 10)
            before = None
            for position, g in enumerate(islice(extensions(group, target, HUGE, partial), 6)):
                self.assertTrue(agreeing(g.images, partial))
                self.assertTrue(before is None or before < g.images)
                self.assertTrue(extension_at(group, target, HUGE, partial, position) == g, name)
                before = g.images
            last = extension_at(group, target, HUGE, partial, number - 1)
            self.assertTrue(agreeing(last.images, partial))
            self.assertTrue(before < last.images)

    def test_restricted_maps_have_extensions(self):
        for table in LARGE.values():
            group, target = Group(table), Target([4, 3])
            for bound in (0, 1, 2):
                number = number_of_maps(group, target, bound)
                f = map_at(group, target, bound, number * 3 // 4)
                for places in ([], [1, 5], list(range(0, group.order, 3)), list(range(group.order))):
                    partial = restricted(f, places)
                    g = extension(group, target, bound, partial)
                    self.assertTrue(agreeing(g.images, partial))
                    self.assertLessEqual(degree(g), bound)
                    self.assertLessEqual(g.images, f.images)
                    self.assertIsNone(refutation(group, target, bound, partial))
                    self.assertIsNone(first_conflict(group, target, bound, partial))
                    self.assertLessEqual(least_bound(group, target, partial), bound)

    def test_it_is_a_generator(self):
        found = extensions(cyclic(2), Target([2]), 0, [None, (1,)])
        self.assertEqual(next(found).images, ((1,), (1,)))
        self.assertRaises(StopIteration, next, found)
        found = extensions(cyclic(2), Target([2]), 0, [(0,), (1,)])
        self.assertRaises(StopIteration, next, found)


def wrong_partials(order):
    """Lists that are no partial maps to the target [2, 3]."""
    yield from ([None] * many for many in (0, order - 1, order + 1, 2 * order))
    for value in ((), (0,), (0, 0, 0), (2, 0), (-1, 0), (0, 3), (0, -1), (0, 10**5000)):
        for at in (0, order - 1):
            partial = [None] * order
            partial[at] = value
            yield partial
        yield [(1, 2)] * (order - 1) + [value]


class InvalidValueTest(RaisesTest):
    def test_it_comes_first(self):
        for name in ("two", "symmetric"):
            group, target = Group(SMALL[name]), Target([2, 3])
            for partial in wrong_partials(group.order):
                for bound in (-1, 1, HUGE):
                    arguments = (group, target, bound, partial)
                    for call in (extension, extension_count, refutation, first_conflict):
                        self.refused(InvalidValue, call, *arguments)
                    self.refused(InvalidValue, lambda: next(extensions(*arguments)))
                    for position in (-1, 0, HUGE):
                        self.refused(InvalidValue, extension_at, *arguments, position)
                    for part in (-1, 0, 2):
                        for coefficients in ([], [0] * group.order):
                            self.refused(InvalidValue, is_refutation, *arguments, part, coefficients)
                self.refused(InvalidValue, least_bound, group, target, partial)

    def test_no_moduli(self):
        group, target = cyclic(2), Target([])
        for partial in ([None], [(0,), None], [None, (0,)], []):
            self.refused(InvalidValue, extension, group, target, 0, partial)
            self.refused(InvalidValue, least_bound, group, target, partial)


class RefutationTest(RaisesTest):
    def test_exactly_without_an_extension(self):
        for group, target, bound, partial, expected in cases():
            found = refutation(group, target, bound, partial)
            if expected:
                self.assertIsNone(found)
                continue
            self.assertIsInstance(found, tuple)
            part, coefficients = found
            self.assertIsInstance(coefficients, list)
            modulus = target.moduli[part]
            self.assertEqual(len(coefficients), group.order)
            self.assertTrue(all(0 <= entry < modulus for entry in coefficients))
            lattice = power_lattice(group, bound + 1, modulus)
            self.assertTrue(lattice.contains(coefficients))
            total = 0
            for coefficient, entry in zip(coefficients, partial):
                if entry is None:
                    self.assertEqual(coefficient, 0)
                else:
                    total += coefficient * entry[part]
            self.assertNotEqual(total % modulus, 0)
            self.assertIs(is_refutation(group, target, bound, partial, part, coefficients), True)

    def test_all_small_coefficients(self):
        group, target = cyclic(4), Target([2, 2])
        for bound in (0, 1, 2):
            lattice = power_lattice(group, bound + 1, 2)
            for partial in list(partials_of("four", (2, 2), 30)):
                for part in (0, 1):
                    for coefficients in product(range(3), repeat=4):
                        total = [
                            q * entry[part] for q, entry in zip(coefficients, partial) if entry
                        ]
                        expected = (
                            all(q == 0 for q, e in zip(coefficients, partial) if e is None)
                            and lattice.contains(list(coefficients))
                            and sum(total) % 2 != 0
                        )
                        found = is_refutation(group, target, bound, partial, part, list(coefficients))
                        self.assertIs(found, expected)

    def test_the_example(self):
        group, target = cyclic(4), Target([2])
        partial = [None, (0,), None, (1,)]
        self.assertTrue(is_refutation(group, target, 1, partial, 0, [0, 1, 0, 1]))
        self.assertEqual(refutation(group, target, 1, partial), (0, [0, 1, 0, 1]))
        self.assertIsNone(extension(group, target, 1, partial))
        self.assertEqual(first_conflict(group, target, 1, partial), 3)
        self.assertEqual(least_bound(group, target, partial), 2)

    def test_coefficients_of_any_size(self):
        group, target = cyclic(4), Target([2])
        partial = [None, (0,), None, (1,)]
        even, odd = 2 * 10**60, 2 * 10**60 + 1
        for coefficients, expected in [
            ([0, 1, 0, -1], True),
            ([0, odd, 0, -odd], True),
            ([0, odd, 0, odd + even], True),
            ([0, odd, 0, even], False),
            ([0, even, 0, even], False),
            ([0, 0, 0, 0], False),
            # At an open element only 0 itself counts, no multiple of the modulus.
            ([2, 1, 0, 1], False),
            ([0, 1, even, 1], False),
            ([0, 1, -2, 1], False),
            ([1, 1, 1, 1], False),
        ]:
            found = is_refutation(group, target, 1, partial, 0, coefficients)
            self.assertIs(found, expected)
        self.assertIs(is_refutation(group, target, 2, partial, 0, [0, 1, 0, 1]), False)
        self.assertIs(is_refutation(group, target, HUGE, partial, 0, [0, 1, 0, 1]), False)
        self.assertIs(is_refutation(group, target, -1, partial, 0, [0, 0, 0, 1]), True)

    def test_other_parts(self):
        group, target = cyclic(4), Target([3, 2])
        partial = [None, (1, 0), None, (1, 1)]
        part, coefficients = refutation(group, target, 1, partial)
        self.assertEqual((part, coefficients), (1, [0, 1, 0, 1]))
        self.assertTrue(is_refutation(group, target, 1, partial, 1, [0, 1, 0, 1]))
        self.assertFalse(is_refutation(group, target, 1, partial, 0, [0, 1, 0, 1]))

    def test_errors(self):
        group, target = cyclic(4), Target([3, 2])
        partial = [None, (1, 0), None, (1, 1)]
        for part in (-1, 2, 3, -2, 10**5000, -(10**5000)):
            for coefficients in ([], [0] * 3, [0] * 4, [0] * 5):
                self.refused(
                    InvalidIndex, is_refutation, group, target, 1, partial, part, coefficients
                )
        for coefficients in ([], [0] * 3, [0] * 5, [0, 1, 0, 1, 0]):
            for part in (0, 1):
                self.refused(
                    InvalidVector, is_refutation, group, target, 1, partial, part, coefficients
                )
        none = [None] * 4
        self.refused(InvalidIndex, is_refutation, group, Target([]), 1, none, 0, [0] * 4)

    def test_large_groups(self):
        for table in LARGE.values():
            group, target = Group(table), Target([2, 4])
            f = GroupMap.from_parts(group, target, [[1] + [0] * (group.order - 1)] * 2)
            for places in (list(range(group.order)), list(range(0, group.order - 1))):
                partial = restricted(f, places)
                part, coefficients = refutation(group, target, 1, partial)
                found = is_refutation(group, target, 1, partial, part, coefficients)
                self.assertTrue(found)
                self.assertTrue(all(0 <= q < target.moduli[part] for q in coefficients))


class ConflictTest(unittest.TestCase):
    def test_first_conflicts(self):
        for group, target, bound, partial, _ in cases(15):
            expected = None
            for x in range(group.order):
                shorter = partial[: x + 1] + [None] * (group.order - x - 1)
                if extension_count(group, target, bound, shorter) == 0:
                    expected = x
                    break
            self.assertEqual(first_conflict(group, target, bound, partial), expected)

    def test_first_conflicts_by_all_maps(self):
        for name, moduli in [("four", (2,)), ("klein", (4,)), ("three", (6,)), ("two", (2, 4))]:
            group, target = case_objects(name, moduli)
            for bound in BOUNDS:
                listed = listed_images(name, moduli, bound)
                for partial in partials_of(name, moduli, 25):
                    ends = [x for x in range(group.order) if not self.prefixes(listed, partial, x)]
                    expected = ends[0] if ends else None
                    self.assertEqual(first_conflict(group, target, bound, partial), expected)

    def prefixes(self, listed, partial, x):
        return [f for f in listed if agreeing(f[: x + 1], partial[: x + 1])]

    def test_least_bounds(self):
        for name, moduli in CASES:
            group, target = case_objects(name, moduli)
            maps = degrees_of_case(name, moduli)
            for partial in partials_of(name, moduli, 30):
                found = [d for f, d in maps.items() if d is not None and agreeing(f, partial)]
                expected = min(found) if found else None
                self.assertEqual(least_bound(group, target, partial), expected)

    def test_everything_given(self):
        for table in (*SMALL.values(), *LARGE.values()):
            for moduli in ((), (2,), (4, 3), (32,)):
                f = numbered_map(table, moduli, 1)
                partial = restricted(f, list(range(len(table))))
                self.assertEqual(least_bound(f.group, f.target, partial), degree(f))

    def test_nothing_given(self):
        for table in (*SMALL.values(), *LARGE.values()):
            group, target = Group(table), Target([4])
            nothing = [None] * group.order
            self.assertEqual(least_bound(group, target, nothing), -1)
            self.assertIsNone(first_conflict(group, target, -1, nothing))
            self.assertEqual(extension_count(group, target, -1, nothing), 1)
            number = number_of_maps(group, target, 2)
            self.assertEqual(extension_count(group, target, 2, nothing), number)

    def test_pairs_of_places(self):
        group, target = cyclic(6), Target([6])
        for x, y in combinations(range(6), 2):
            for v in range(6):
                partial = [None] * 6
                partial[x], partial[y] = (0,), (v,)
                found = least_bound(group, target, partial)
                maps = [
                    d
                    for images in ([(k * (z - x)) % 6 for z in range(6)] for k in range(6))
                    for d in [degree(GroupMap.from_parts(group, target, [images]))]
                    if images[y] == v
                ]
                if maps:
                    self.assertLessEqual(found, min(maps))

    def test_the_group_of_order_one(self):
        group = Group([[0]])
        self.assertEqual(least_bound(group, Target([4]), [(3,)]), 0)
        self.assertEqual(least_bound(group, Target([4]), [(0,)]), -1)
        self.assertEqual(first_conflict(group, Target([4]), -1, [(3,)]), 0)
        self.assertEqual(refutation(group, Target([4]), -1, [(3,)])[0], 0)

    def test_no_degree(self):
        group = Group(cyclic_table(3))
        self.assertIsNone(least_bound(group, Target([2]), [(0,), (1,), None]))
        self.assertEqual(first_conflict(group, Target([2]), HUGE, [(0,), (1,), None]), 1)


if __name__ == "__main__":
    unittest.main()
