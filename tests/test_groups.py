import unittest

from samples import LARGE, LOOP, SMALL, WRONG, RaisesTest, closed, cyclic_table
from stepsvanish.errors import InvalidElement, InvalidGroup, LimitExceeded
from stepsvanish.groups import Group

ALL = {**SMALL, **LARGE}


class TableTest(RaisesTest):
    def no_group(self, table):
        self.refused(InvalidGroup, Group, table)

    def test_attributes(self):
        for table in ALL.values():
            group = Group(table)
            self.assertEqual(group.order, len(table))
            self.assertEqual(group.rows, tuple(tuple(row) for row in table))
            self.assertIsInstance(group.rows, tuple)
            self.assertIsInstance(group.rows[0], tuple)
            self.assertIsInstance(group.inverses, tuple)
            for x, y in enumerate(group.inverses):
                self.assertEqual((table[x][y], table[y][x]), (0, 0))

    def test_the_table_is_copied(self):
        table = cyclic_table(3)
        group = Group(table)
        table[1][1] = 0
        table.append([9])
        self.assertEqual(group.rows, ((0, 1, 2), (1, 2, 0), (2, 0, 1)))
        self.assertEqual(group.multiply(1, 1), 2)

    def test_the_table_is_not_modified(self):
        table = cyclic_table(4)
        Group(table)
        self.assertEqual(table, cyclic_table(4))

    def test_no_rows(self):
        self.no_group([])

    def test_a_row_of_a_wrong_length(self):
        self.no_group([[]])
        self.no_group([[0, 1]])
        for at in range(3):
            short = cyclic_table(3)
            short[at] = short[at][:2]
            self.no_group(short)
            long = cyclic_table(3)
            long[at] = long[at] + [0]
            self.no_group(long)

    def test_an_entry_that_is_no_element(self):
        for worth in (-1, -2, 3, 10**5000, -(10**5000)):
            for x in range(3):
                for y in range(3):
                    table = cyclic_table(3)
                    table[x][y] = worth
                    self.no_group(table)
        self.no_group([[1]])

    def test_no_identity(self):
        # Every other condition holds: the rows are those of a group in another order.
        self.no_group([[1, 0], [0, 1]])
        # The products x0 are right, 0x is not.
        self.no_group([[0, 0], [1, 1]])
        # The products 0x are right, x0 is not.
        self.no_group([[0, 1], [0, 1]])
        self.no_group([[0, 1, 2], [1, 2, 0], [0, 0, 1]])

    def test_no_inverse(self):
        # Associative, with identity: products of zeros and ones.
        self.no_group([[0, 1], [1, 1]])
        # The greater of two integers.
        self.no_group([[max(x, y) for y in range(4)] for x in range(4)])

    def test_not_associative(self):
        self.no_group(LOOP)

    def test_a_single_wrong_product_in_a_large_table(self):
        table = cyclic_table(32)
        table[31][30], table[31][29] = table[31][29], table[31][30]
        self.no_group(table)

    def test_more_rows_than_allowed(self):
        for table in (
            cyclic_table(33),
            cyclic_table(40),
            [[] for _ in range(33)],
            [[-1]] * 33,
            [[0] * 33] * 33,
        ):
            self.refused(LimitExceeded, Group, table)
        self.assertEqual(Group(cyclic_table(32)).order, 32)


class CalculationTest(unittest.TestCase):
    def test_products_and_inverses(self):
        for table in ALL.values():
            group = Group(table)
            for x in range(group.order):
                self.assertEqual(table[x][group.inverse(x)], 0)
                for y in range(group.order):
                    self.assertEqual(group.multiply(x, y), table[x][y])

    def test_powers_and_orders(self):
        for table in SMALL.values():
            group = Group(table)
            for x in range(group.order):
                power = 0
                powers = [0]
                for _ in range(30):
                    power = table[power][x]
                    powers.append(power)
                order = powers.index(0, 1)
                self.assertEqual(group.order_of(x), order)
                for exponent, power in enumerate(powers):
                    self.assertEqual(group.power(x, exponent), power)
                    inverse = group.inverse(x)
                    self.assertEqual(group.power(x, -exponent), group.power(inverse, exponent))
                big = 10**40
                self.assertEqual(group.power(x, big), powers[big % order])
                self.assertEqual(group.power(x, -big), powers[-big % order])

    def test_known_orders(self):
        group = Group(cyclic_table(12))
        orders = [group.order_of(x) for x in range(12)]
        self.assertEqual(orders, [1, 12, 6, 4, 3, 12, 2, 12, 3, 4, 6, 12])
        self.assertEqual(group.power(5, -1), 7)

    def test_generated_subgroups(self):
        for table in ALL.values():
            group = Group(table)
            self.assertEqual(group.generated([]), [0])
            self.assertEqual(group.generated([0]), [0])
            for x in range(group.order):
                self.assertEqual(group.generated([x]), closed(table, [x]))
                y = (3 * x + 1) % group.order
                expected = closed(table, [x, y])
                self.assertEqual(group.generated([x, y]), expected)
                self.assertEqual(group.generated([y, x, y, 0, x]), expected)

    def test_generators(self):
        for table in ALL.values():
            group = Group(table)
            chosen = []
            for x in range(len(table)):
                if x not in closed(table, chosen):
                    chosen.append(x)
            self.assertEqual(group.generators(), chosen)
            self.assertNotIn(0, chosen)
        self.assertEqual(Group([[0]]).generators(), [])
        self.assertEqual(Group(LARGE["many twos"]).generators(), [1, 2, 4, 8, 16])
        self.assertEqual(Group(cyclic_table(6)).generators(), [1])

    def test_generators_may_be_more_than_needed(self):
        # The integers modulo 6, numbered 0, 2, 4, 3, 5, 1.
        places = [0, 2, 4, 3, 5, 1]
        table = [[places.index((x + y) % 6) for y in places] for x in places]
        self.assertEqual(Group(table).generators(), [1, 3])

    def test_commutativity(self):
        not_commutative = (
            "symmetric",
            "square",
            "quaternion",
            "alternating",
            "four points",
            "sixteen corners",
            "quaternions",
        )
        for name, table in ALL.items():
            self.assertIs(Group(table).is_commutative(), name not in not_commutative)

    def test_equality(self):
        group = Group(cyclic_table(4))
        self.assertTrue(group == Group(cyclic_table(4)))
        self.assertFalse(group != Group(cyclic_table(4)))
        self.assertFalse(group == Group(SMALL["klein"]))
        self.assertTrue(group != Group(SMALL["klein"]))
        # The same group with other numbers is not equal.
        places = [0, 2, 1, 3]
        table = [[places.index((x + y) % 4) for y in places] for x in places]
        self.assertFalse(group == Group(table))
        for other in (group.rows, cyclic_table(4), 4, None, "group"):
            self.assertFalse(group == other)

    def test_returned_lists_are_new(self):
        group = Group(SMALL["symmetric"])
        generators = group.generators()
        generators.append(5)
        self.assertNotEqual(group.generators(), generators)
        generated = group.generated([1])
        generated.clear()
        self.assertEqual(group.generated([1]), [0, 1])

    def test_a_list_of_members_is_not_modified(self):
        group = Group(SMALL["symmetric"])
        members = [5, 1, 5, 0]
        group.generated(members)
        self.assertEqual(members, [5, 1, 5, 0])


class WrongMembersTest(RaisesTest):
    def test_each_method_refuses_what_is_no_element(self):
        for table in ([[0]], SMALL["symmetric"], LARGE["cyclic"]):
            group = Group(table)
            for bad in (*WRONG, group.order, group.order + 1, -group.order):
                for call in (
                    lambda: group.multiply(bad, 0),
                    lambda: group.multiply(0, bad),
                    lambda: group.inverse(bad),
                    lambda: group.power(bad, 0),
                    lambda: group.power(bad, 5),
                    lambda: group.power(bad, -1),
                    lambda: group.order_of(bad),
                    lambda: group.generated([bad]),
                    lambda: group.generated([0, bad]),
                    lambda: group.generated([bad, 0]),
                    lambda: group.generated([0, bad, 0]),
                ):
                    self.refused(InvalidElement, call)


if __name__ == "__main__":
    unittest.main()
