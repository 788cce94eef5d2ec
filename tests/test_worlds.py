import unittest

from samples import LARGE, LOOP, SMALL, RaisesTest, numbered_map
from stepsvanish.building import cyclic
from stepsvanish.errors import InvalidName, InvalidText, Mismatch, UnknownName
from stepsvanish.groups import Group
from stepsvanish.maps import GroupMap
from stepsvanish.targets import Target
from stepsvanish.worlds import World, read_world, write_world

EXAMPLE = "group 2\n0 1\n1 0\ntarget 2 4\nmap f 0,0 1,3"

# Words that are no integers by point 126, as numbers below 2 would be.
BAD_NUMBERS = (
    ["", "-1", "+1", "01", "00", "1.0", "a", "1a", "0x1", "1_0", "?", "-", "1,", "1,1", "-0", "+0"]
    + ["0000000001", "1000000000", "1" * 30, "1" * 5000]
)


def small_world():
    f = numbered_map(SMALL["four"], (2, 3), 1)
    world = World(f.group, f.target)
    return world, f


def equal_worlds(first, second):
    return (
        first.group == second.group
        and first.target == second.target
        and list(first) == list(second)
        and all(first.map_of(name) == second.map_of(name) for name in first)
    )


class TextTest(RaisesTest):
    def wrong(self, text, line):
        with self.assertRaises(InvalidText) as caught:
            read_world(text)
        self.assertEqual(caught.exception.line, line, text)
        self.assertIs(caught.exception.line.__class__, int)


class WorldTest(RaisesTest):
    def test_define_and_map_of(self):
        world, f = small_world()
        self.assertTrue(world.group == f.group and world.target == f.target)
        self.assertEqual(list(world), [])
        for at, name in enumerate(("f", "zzzzzzzz", "map", "abcdefgh", "target")):
            self.assertNotIn(name, world)
            self.assertIsNone(world.define(name, f * at))
            self.assertIn(name, world)
            self.assertIs(name in world, True)
            self.assertTrue(world.map_of(name) == f * at)
        self.assertEqual(list(world), ["f", "zzzzzzzz", "map", "abcdefgh", "target"])

    def test_names(self):
        world, f = small_world()
        for length in range(1, 9):
            world.define("z" * length, f)
        for wrong in ("", "abcdefghi", "a" * 100, "A", "a1", "1", "a b", " ", "a ", " a", "a\n", "-"):
            self.refused(InvalidName, world.define, wrong, f)
            self.assertIs(wrong in world, False)
        for at in range(8):
            for sign in "`{A_0 \n\t":
                self.refused(InvalidName, world.define, "a" * at + sign + "a" * (7 - at), f)
        for letter in ("\u00e9", "\u00df", "\u0430", "\u00b2"):
            self.refused(InvalidName, world.define, letter, f)
        self.assertEqual(len(list(world)), 8)

    def test_names_that_are_used(self):
        world, f = small_world()
        world.define("f", f)
        self.refused(InvalidName, world.define, "f", f)
        self.refused(InvalidName, world.define, "f", f + f)
        self.assertTrue(world.map_of("f") == f)

    def test_mismatch(self):
        world, f = small_world()
        world.define("f", f)
        for other in (
            numbered_map(SMALL["klein"], (2, 3), 1),
            numbered_map(SMALL["four"], (3, 2), 1),
            numbered_map(SMALL["four"], (6,), 1),
            numbered_map(SMALL["one"], (), 1),
        ):
            self.refused(Mismatch, world.define, "g", other)
            for name in ("f", "", "G", "abcdefghi"):
                self.refused(InvalidName, world.define, name, other)
        self.assertEqual(list(world), ["f"])

    def test_drop(self):
        world, f = small_world()
        for name in ("f", "g", "h"):
            world.define(name, f)
        self.assertIsNone(world.drop("f"))
        self.assertNotIn("f", world)
        self.assertEqual(list(world), ["g", "h"])
        self.refused(UnknownName, world.drop, "f")
        self.refused(UnknownName, world.map_of, "f")
        world.define("f", f + f)
        self.assertEqual(list(world), ["g", "h", "f"])
        self.assertTrue(world.map_of("f") == f + f)
        for name in ("g", "h", "f"):
            world.drop(name)
        self.assertEqual(list(world), [])

    def test_unknown_names(self):
        world, f = small_world()
        world.define("f", f)
        for name in ("g", "", "ff", "F", "abcdefghij", "f "):
            self.refused(UnknownName, world.map_of, name)
            self.refused(UnknownName, world.drop, name)
            self.assertNotIn(name, world)
        self.assertEqual(list(world), ["f"])

    def test_two_worlds(self):
        first, f = small_world()
        second = World(first.group, first.target)
        first.define("f", f)
        self.assertNotIn("f", second)
        second.define("f", f + f)
        self.assertTrue(first.map_of("f") == f)


class WriteTest(TextTest):
    def test_the_example(self):
        world = read_world(EXAMPLE)
        self.assertTrue(world.group == cyclic(2))
        self.assertEqual(world.target.moduli, (2, 4))
        self.assertEqual(list(world), ["f"])
        self.assertEqual(world.map_of("f").images, ((0, 0), (1, 3)))
        self.assertEqual(write_world(world), EXAMPLE)

    def test_by_hand(self):
        f = GroupMap.from_parts(cyclic(1), Target([11]), [[10]])
        world = World(f.group, f.target)
        self.assertEqual(write_world(world), "group 1\n0\ntarget 11")
        world.define("ten", f)
        self.assertEqual(write_world(world), "group 1\n0\ntarget 11\nmap ten 10")

    def test_no_moduli(self):
        f = numbered_map(SMALL["three"], (), 1)
        world = World(f.group, f.target)
        world.define("f", f)
        text = "group 3\n0 1 2\n1 2 0\n2 0 1\ntarget\nmap f - - -"
        self.assertEqual(write_world(world), text)
        self.assertTrue(equal_worlds(read_world(text), world))

    def test_there_and_back(self):
        for table in (*SMALL.values(), *LARGE.values()):
            for moduli in ((), (2,), (32,), (2, 3), (4, 2, 4)):
                f = numbered_map(table, moduli, 1)
                world = World(f.group, f.target)
                for at, name in enumerate(("z", "map", "group", "a", "abcdefgh")):
                    world.define(name, numbered_map(table, moduli, at))
                world.drop("group")
                world.drop("z")
                world.define("z", f)
                text = write_world(world)
                self.assertIs(text.__class__, str)
                self.assertEqual(len(text.split("\n")), len(table) + 6)
                found = read_world(text)
                self.assertIs(found.__class__, World)
                self.assertTrue(equal_worlds(found, world))
                self.assertEqual(write_world(found), text)


class FirstLineTest(TextTest):
    def test_wrong_lines(self):
        rest = "\n0 1\n1 0\ntarget 2"
        read_world("group 2" + rest)
        for line in (
            ["", " ", "group", "group ", "group 2 ", " group 2", "group  2", "group 2 2", "2"]
            + ["Group 2", "groups 2", "target 2", "2 group", "group two", "group 3 "]
            + ["group 0", "group 33", "group 100", "group 999999999"]
        ):
            self.wrong(line + rest, 1)
        for number in BAD_NUMBERS:
            self.wrong(f"group {number}" + rest, 1)

    def test_empty_texts(self):
        self.wrong("", 1)
        self.wrong("\n", 1)
        self.wrong("\n" + EXAMPLE, 1)


class RowsTest(TextTest):
    def test_wrong_rows(self):
        rows = ["0 1 2", "1 2 0", "2 0 1"]
        for at in range(3):
            for wrong in (
                ["", "0", "0 1", "0 1 2 0", "0 1 3", "0 3 1", "3 0 1", "0  1 2", " 0 1 2", "0 1 2 "]
                + ["a 1 2", "0 1 a", "0,1,2", "target 2", "0 1 32"]
            ):
                lines = ["group 3", *rows, "target 2"]
                lines[at + 1] = wrong
                self.wrong("\n".join(lines), at + 2)
            for number in BAD_NUMBERS:
                lines = ["group 3", *rows, "target 2"]
                lines[at + 1] = f"0 {number} 2"
                self.wrong("\n".join(lines), at + 2)

    def test_missing_rows(self):
        lines = ["group 3", "0 1 2", "1 2 0", "2 0 1"]
        for many in range(1, 5):
            self.wrong("\n".join(lines[:many]), many + 1)
            self.wrong("\n".join([*lines[:many], ""]), many + 1)

    def test_tables_that_are_no_groups(self):
        for rows in (
            ["1"],
            ["0 1", "1 1"],
            ["1 0", "0 1"],
            ["0 0", "1 0"],
            ["0 1 2", "1 0 0", "2 0 1"],
            [" ".join(str(entry) for entry in row) for row in LOOP],
        ):
            lines = [f"group {len(rows)}", *rows, "target 2"]
            if rows == ["1"]:
                # No integer below the order 1 but 0.
                self.wrong("\n".join(lines), 2)
            else:
                self.wrong("\n".join(lines), 1)
                # The table is looked at ahead of the line of the target.
                self.wrong("\n".join(lines[:-1]), 1)
                self.wrong("\n".join([*lines[:-1], "target 1"]), 1)
                self.wrong("\n".join([*lines, "map F"]), 1)

    def test_rows_are_looked_at_ahead_of_the_table(self):
        self.wrong("group 2\n0 0\n2 0\ntarget 2", 3)
        self.wrong("group 2\n1 1\n1", 3)
        self.wrong("group 2\n1 1", 3)


class TargetLineTest(TextTest):
    def test_right_lines(self):
        for moduli in ([], [2], [32], [2, 16], [2, 2, 2, 2, 2], [31]):
            line = " ".join(["target", *[str(m) for m in moduli]])
            self.assertEqual(read_world(f"group 1\n0\n{line}").target.moduli, tuple(moduli))

    def test_wrong_lines(self):
        for line in (
            ["", " ", "target ", " target", "target  2", "target 2 ", "Target 2", "2", "map f 0"]
            + ["target 0", "target 1", "target 33", "target 2 17", "target 2 1", "target 1 40"]
            + ["target 999999999 999999999", "target 2 2 2 2 2 2", "target 2,2", "group 1"]
        ):
            self.wrong(f"group 1\n0\n{line}", 3)
            self.wrong(f"group 1\n0\n{line}\nmap F", 3)
        for number in BAD_NUMBERS:
            if number != "1":
                self.wrong(f"group 1\n0\ntarget 2 {number}", 3)

    def test_missing_line(self):
        self.wrong("group 1\n0", 3)
        self.wrong("group 1\n0\n", 3)
        self.wrong("group 1\n0\n\ntarget 2", 3)


class MapLinesTest(TextTest):
    start = "group 2\n0 1\n1 0\ntarget 2 4\n"

    def test_wrong_lines(self):
        for line in (
            ["", " ", "map", "map f", "map f 0,0", "map f 0,0 1,3 0,0", "map 0,0 1,3", "f 0,0 1,3"]
            + [" map f 0,0 1,3", "map f 0,0 1,3 ", "map  f 0,0 1,3", "map f  0,0 1,3"]
            + ["Map f 0,0 1,3", "map F 0,0 1,3", "map abcdefghi 0,0 1,3", "map f1 0,0 1,3"]
            + ["map f 0,0 1", "map f 0,0 1,3,0", "map f 0,0 2,0", "map f 0,0 0,4", "map f 0,0 1,"]
            + ["map f 0,0 ,1", "map f 0,0 1,,3", "map f 0,0 -", "map f - -", "map f 0,0 ?"]
            + ["map f 0,0 1;3", "map f 0 0", "map f 0, 0 1,3", "target 2 4", "show f", "sum f f f"]
        ):
            self.wrong(self.start + line, 5)
            self.wrong(self.start + line + "\nmap f 0,0 1,3", 5)
            self.wrong(self.start + "map g 0,0 1,3\n" + line, 6)
        for number in BAD_NUMBERS:
            if number != "1,1":
                self.wrong(self.start + f"map f 0,0 0,{number}", 5)
                self.wrong(self.start + f"map f {number},0 0,0", 5)

    def test_names(self):
        lines = "map f 0,0 1,3\nmap g 0,0 1,3\n"
        self.wrong(self.start + lines + "map f 0,0 1,3", 7)
        self.wrong(self.start + lines + "map g 1,1 1,1\nmap", 7)
        found = read_world(self.start + lines + "map map 1,1 1,1")
        self.assertEqual(list(found), ["f", "g", "map"])

    def test_ends_of_texts(self):
        self.wrong(EXAMPLE + "\n", 6)
        self.wrong(EXAMPLE + "\n\n", 6)
        self.wrong(EXAMPLE + " ", 5)
        self.wrong(self.start, 5)
        self.wrong(EXAMPLE + "\n\nmap g 0,0 0,0", 6)

    def test_no_moduli(self):
        start = "group 2\n0 1\n1 0\ntarget\n"
        self.assertEqual(read_world(start + "map f - -").map_of("f").images, ((), ()))
        for line in ("map f - 0", "map f -", "map f - - -", "map f , -", "map f -- -", "map f 0 0"):
            self.wrong(start + line, 5)

    def test_one_modulus(self):
        start = "group 2\n0 1\n1 0\ntarget 30\n"
        self.assertEqual(read_world(start + "map f 29 10").map_of("f").images, ((29,), (10,)))
        for line in ("map f 30 0", "map f 0,0 0", "map f 029 0", "map f 0 -", "map f -1 0"):
            self.wrong(start + line, 5)


class OrderTest(TextTest):
    def test_the_first_of_two_errors(self):
        lines = ["group 2", "0 1", "1 0", "target 2", "map f 0 1", "map g 0 1"]
        read_world("\n".join(lines))
        for first in range(6):
            for second in range(first, 6):
                wrong = list(lines)
                wrong[first] = wrong[first] + " "
                wrong[second] = wrong[second] + " x"
                self.wrong("\n".join(wrong), first + 1)


if __name__ == "__main__":
    unittest.main()
