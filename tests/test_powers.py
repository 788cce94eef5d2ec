import unittest
from itertools import product

from samples import LARGE, SMALL, RaisesTest, cyclic_table, minus_identity, times
from stepsvanish.errors import InvalidElement, InvalidModulus, InvalidVector
from stepsvanish.groups import Group
from stepsvanish.lattices import Lattice
from stepsvanish.maps import GroupMap
from stepsvanish.powers import power_chain, power_lattice, shifted
from stepsvanish.targets import Target

HUGE = 10**30


def unit(order, at):
    return [int(x == at) for x in range(order)]


def defined_power(table, exponent, modulus):
    """The power lattice as point 16 defines it; the set I has these generators."""
    order = len(table)
    inner = [minus_identity(table, x) for x in range(order)]
    vectors = [unit(order, x) for x in range(order)]
    for _ in range(exponent):
        lattice = Lattice([], order, modulus)
        vectors = list(
            lattice.joined([times(table, v, q) for v in vectors for q in inner]).rows
        )
    return Lattice(vectors, order, modulus)


def all_maps(table, modulus):
    group, target = Group(table), Target([modulus])
    for numbers in product(range(modulus), repeat=len(table)):
        yield GroupMap.from_parts(group, target, [list(numbers)])


def differences_vanish(f, count):
    """True if every `count` differences, by any elements, give the zero map."""
    found = [f]
    for _ in range(count):
        found = [g.step(a) for g in found for a in range(f.group.order)]
        kept = {}
        for g in found:
            kept[g.images] = g
        found = list(kept.values())
    return all(g.is_zero() for g in found)


class ShiftedTest(RaisesTest):
    def test_products(self):
        for table in (*SMALL.values(), LARGE["four points"]):
            group = Group(table)
            coefficients = [(-1) ** x * (x * x + 1) for x in range(len(table))]
            coefficients[-1] = 10**50
            kept = list(coefficients)
            for a in range(len(table)):
                expected = times(table, coefficients, minus_identity(table, a))
                result = shifted(group, coefficients, a)
                self.assertEqual(result, expected)
                self.assertIsInstance(result, list)
            self.assertEqual(coefficients, kept)
            self.assertEqual(shifted(group, coefficients, 0), [0] * len(table))

    def test_the_product_is_from_the_right(self):
        group = Group(SMALL["symmetric"])
        self.assertNotEqual(group.multiply(1, 2), group.multiply(2, 1))
        expected = [0] * 6
        expected[group.multiply(1, 2)] += 1
        expected[1] -= 1
        self.assertEqual(shifted(group, unit(6, 1), 2), expected)

    def test_errors(self):
        group = Group(cyclic_table(3))
        for coefficients in ([], [1, 2], [1, 2, 3, 4]):
            self.refused(InvalidVector, shifted, group, coefficients, 1)
            # The vector comes before the element.
            self.refused(InvalidVector, shifted, group, coefficients, 3)
        for element in (-1, 3, 10**5000, -(10**5000)):
            self.refused(InvalidElement, shifted, group, [1, 2, 3], element)


class PowerLatticeTest(RaisesTest):
    def test_small_exponents_by_the_definition(self):
        for table in SMALL.values():
            group = Group(table)
            for modulus in (1, 2, 3, 4, 6, 9):
                for exponent in range(4):
                    lattice = power_lattice(group, exponent, modulus)
                    self.assertEqual((lattice.width, lattice.modulus), (len(table), modulus))
                    self.assertTrue(lattice == defined_power(table, exponent, modulus))

    def test_exponent_zero_and_one(self):
        for table in (*SMALL.values(), *LARGE.values()):
            group, order = Group(table), len(table)
            for modulus in (1, 2, 12, 10**40):
                everything = power_lattice(group, 0, modulus)
                self.assertEqual(everything.rows, tuple(tuple(unit(order, x)) for x in range(order)))
                inner = power_lattice(group, 1, modulus)
                self.assertEqual(inner.coset_count(), modulus)
                for x in range(order):
                    self.assertTrue(inner.contains(minus_identity(table, x)))

    def test_modulus_one(self):
        for table in (*SMALL.values(), *LARGE.values()):
            group = Group(table)
            for exponent in (0, 1, 5, HUGE):
                self.assertEqual(power_lattice(group, exponent, 1).coset_count(), 1)
            self.assertEqual(len(power_chain(group, 1)), 1)

    def test_group_of_order_one(self):
        group = Group([[0]])
        self.assertEqual(power_lattice(group, 0, 5).rows, ((1,),))
        self.assertEqual(power_lattice(group, 1, 5).rows, ((5,),))
        self.assertEqual(power_lattice(group, HUGE, 5).rows, ((5,),))
        self.assertEqual([lattice.rows for lattice in power_chain(group, 5)], [((1,),), ((5,),)])

    def test_left_products_lead_to_the_same_lattices(self):
        for table in (*SMALL.values(), LARGE["four points"]):
            group, order = Group(table), len(table)
            for modulus in (2, 3, 8):
                left = power_lattice(group, 0, modulus)
                for exponent in range(1, 6):
                    generators = [minus_identity(table, g) for g in group.generators()]
                    vectors = [times(table, g, row) for row in left.rows for g in generators]
                    left = Lattice(vectors, order, modulus)
                    self.assertTrue(left == power_lattice(group, exponent, modulus))

    def test_generators_and_shifted_lead_to_the_next(self):
        for table in (*SMALL.values(), *LARGE.values()):
            group, order = Group(table), len(table)
            for modulus in (2, 6, 27):
                for exponent in (0, 1, 2, 5):
                    rows = power_lattice(group, exponent, modulus).rows
                    vectors = [shifted(group, row, g) for row in rows for g in group.generators()]
                    following = power_lattice(group, exponent + 1, modulus)
                    self.assertTrue(Lattice(vectors, order, modulus) == following)

    def test_products_of_two_powers(self):
        for name in ("symmetric", "quaternion", "eight"):
            table = SMALL[name]
            group = Group(table)
            for modulus in (4, 6):
                for first, second in ((1, 1), (2, 3), (3, 2), (4, 4)):
                    left = power_lattice(group, first, modulus).rows
                    right = power_lattice(group, second, modulus).rows
                    vectors = [times(table, v, w) for v in left for w in right]
                    both = power_lattice(group, first + second, modulus)
                    self.assertTrue(Lattice(vectors, len(table), modulus) == both)

    def test_exponents_beyond_the_steps(self):
        # The chain of 32 elements in a circle is long for powers of 2.
        group = Group(LARGE["cyclic"])
        modulus = 2**20
        chain = power_chain(group, modulus)
        self.assertEqual(len(chain), 31 + 19 * 16 + 2)
        for exponent in (126, 127, 128, 129, 191, 255, 256, 257, 300, len(chain) - 2):
            self.assertTrue(power_lattice(group, exponent, modulus) == chain[exponent])
        for exponent in (len(chain) - 1, len(chain), 512, 1000, HUGE, 2**100 - 1, 10**1000):
            self.assertTrue(power_lattice(group, exponent, modulus) == chain[-1])

    def test_large_moduli(self):
        group = Group(SMALL["eight"])
        modulus = 10**40
        lattice = power_lattice(group, HUGE, modulus)
        # The powers of 5 stay from the exponent 1 on, those of 2 vanish.
        self.assertEqual(lattice.coset_count(), 2 ** (40 * 8) * 5**40)
        lattice = power_lattice(group, 2, modulus)
        self.assertTrue(lattice.contains([8, -8, 0, 0, 0, 0, 0, 0]))
        self.assertFalse(lattice.contains([4, -4, 0, 0, 0, 0, 0, 0]))

    def test_wrong_moduli(self):
        group = Group(cyclic_table(4))
        for modulus in (0, -1, -2, -(10**5000)):
            for exponent in (0, 1, HUGE):
                self.refused(InvalidModulus, power_lattice, group, exponent, modulus)
            self.refused(InvalidModulus, power_chain, group, modulus)


class PowerChainTest(RaisesTest):
    def test_chains(self):
        for table in (*SMALL.values(), *LARGE.values()):
            group = Group(table)
            for modulus in (2, 3, 5, 4, 12, 30):
                chain = power_chain(group, modulus)
                self.assertIsInstance(chain, list)
                self.assertTrue(chain[0] == power_lattice(group, 0, modulus))
                for exponent in range(len(chain) - 1):
                    self.assertTrue(chain[exponent + 1].inside(chain[exponent]))
                    self.assertFalse(chain[exponent + 1] == chain[exponent])
                for exponent in {1, 2, len(chain) // 2, len(chain) - 2, len(chain) - 1}:
                    if 0 <= exponent < len(chain):
                        self.assertTrue(
                            power_lattice(group, exponent, modulus) == chain[exponent]
                        )
                for exponent in (len(chain), len(chain) + 1, HUGE):
                    self.assertTrue(power_lattice(group, exponent, modulus) == chain[-1])

    def test_known_lengths(self):
        for table, modulus, length in [
            (SMALL["four"], 2, 5),
            (SMALL["four"], 4, 7),
            (SMALL["klein"], 2, 4),
            (SMALL["klein"], 4, 5),
            (SMALL["three"], 2, 2),
            (SMALL["six"], 5, 2),
            (SMALL["nine"], 3, 6),
            (SMALL["nine"], 9, 8),
            (SMALL["symmetric"], 2, 3),
            (SMALL["symmetric"], 3, 2),
            (LARGE["cyclic"], 2, 33),
            (LARGE["cyclic"], 32, 97),
            (LARGE["many twos"], 2, 7),
            (LARGE["many twos"], 32, 11),
        ]:
            self.assertEqual(len(power_chain(Group(table), modulus)), length)

    def test_the_list_is_new(self):
        group = Group(cyclic_table(4))
        chain = power_chain(group, 2)
        chain.clear()
        self.assertEqual(len(power_chain(group, 2)), 5)


class DegreeTest(unittest.TestCase):
    def test_lattices_against_repeated_differences(self):
        for table, modulus in [
            (SMALL["one"], 4),
            (SMALL["two"], 4),
            (SMALL["three"], 3),
            (SMALL["three"], 4),
            (SMALL["four"], 2),
            (SMALL["four"], 4),
            (SMALL["klein"], 2),
            (SMALL["klein"], 3),
            (SMALL["six"], 2),
            (SMALL["symmetric"], 2),
            (SMALL["symmetric"], 3),
        ]:
            group = Group(table)
            maps = list(all_maps(table, modulus))
            for exponent in range(5):
                lattice = power_lattice(group, exponent, modulus)
                count = 0
                for f in maps:
                    value = all(f.evaluate(row) == (0,) for row in lattice.rows)
                    self.assertIs(value, differences_vanish(f, exponent))
                    count += value
                self.assertEqual(count, lattice.coset_count())


if __name__ == "__main__":
    unittest.main()
