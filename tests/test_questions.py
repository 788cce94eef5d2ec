import unittest
from itertools import product

from samples import LARGE, SMALL, RaisesTest, numbered_map
from stepsvanish.building import cyclic
from stepsvanish.degrees import degree
from stepsvanish.errors import InvalidText
from stepsvanish.groups import Group
from stepsvanish.listing import number_of_maps
from stepsvanish.maps import GroupMap
from stepsvanish.partial import extension, extension_count
from stepsvanish.questions import run
from stepsvanish.targets import Target
from stepsvanish.totals import total
from stepsvanish.worlds import World, write_world
from stepsvanish.zeros import common_zeros, promised_exponent

START = "group 4\n0 1 2 3\n1 2 3 0\n2 3 0 1\n3 0 1 2\ntarget 2 4\n"
MAPS = "map f 0,0 1,1 0,2 1,3\nmap g 1,0 1,0 1,0 1,0\n"

# The number of the first line behind START and behind MAPS.
FIRST = 7
LATER = 9

BAD_NUMBERS = (
    ["-1", "+1", "01", "00", "1.0", "a", "1a", "0x1", "1_0", "?", "-", "1,", "1,1", "-0"]
    + ["0000000001", "1000000000", "1" * 30, "1" * 5000, "f"]
)


def text_of(value):
    return ",".join(str(entry) for entry in value) or "-"


def world_text(table, moduli, maps):
    world = World(Group(table), Target(list(moduli)))
    for name, f in maps.items():
        world.define(name, f)
    return write_world(world) + "\n"


class RunTest(RaisesTest):
    def wrong(self, text, line):
        with self.assertRaises(InvalidText) as caught:
            run(text)
        self.assertEqual(caught.exception.line, line, text)

    def wrong_lines(self, lines, start=START + MAPS, number=LATER):
        """Each of the lines is not as it must be, whatever stands behind it."""
        for line in lines:
            self.wrong(start + line, number)
            self.wrong(start + line + "\nshow nothing", number)
            self.wrong(start + "show f\n" + line, number + 1)

    def answers(self, lines, start=START + MAPS):
        found = run(start + lines)
        self.assertIs(found.__class__, list)
        # The same text gives the same answers.
        self.assertEqual(run(start + lines), found)
        return found


class BeginningTest(RunTest):
    def test_no_lines(self):
        self.assertEqual(run(START[:-1]), [])
        self.assertEqual(run((START + MAPS)[:-1]), [])
        self.assertEqual(run("group 1\n0\ntarget"), [])

    def test_wrong_beginnings(self):
        self.wrong("", 1)
        self.wrong("group 33", 1)
        self.wrong("group 2\n0 1", 3)
        self.wrong("group 2\n0 1\n1 1\ntarget 2", 1)
        self.wrong("group 2\n0 1\n1 2\ntarget 2", 3)
        self.wrong("group 2\n0 1\n1 0\ntarget 1\nshow f", 4)
        self.wrong("group 2\n0 1\n1 0", 4)
        self.wrong("group 2\n0 1\n1 0\ntarget 2 \nshow f", 4)

    def test_lines_of_maps(self):
        self.assertEqual(self.answers("map h 0,0 0,0 0,0 1,2\nshow h"), ["map h 0,0 0,0 0,0 1,2"])
        self.wrong_lines(
            ["map", "map h", "map h 0,0 0,0 0,0", "map h 0,0 0,0 0,0 0,0 0,0", "map f 0,0 0,0 0,0 0,0"]
            + ["map H 0,0 0,0 0,0 0,0", "map h 0,0 0,0 0,0 2,0", "map h 0,0 0,0 0,0 ?"]
            + ["map abcdefghi 0,0 0,0 0,0 0,0"]
        )

    def test_lines_that_begin_with_no_word_of_the_list(self):
        self.wrong_lines(
            ["", " ", "f", "f g", "Show f", "shows f", "show  f", " show f", "show f ", "target 2 4"]
            + ["group 4", "undo", "minus h f g", "0", "0 1 2 3", "-", "?", "#"]
        )
        self.wrong(START + MAPS, LATER)
        self.wrong(START + MAPS + "show f\n", LATER + 1)


class DefiningTest(RunTest):
    def test_sum(self):
        found = self.answers("sum h f g\nsum k f f\nshow h\nshow k")
        self.assertEqual(found, ["map h 1,0 0,1 1,2 0,3", "map k 0,0 0,2 0,0 0,2"])
        self.wrong_lines(
            ["sum", "sum h", "sum h f", "sum h f g f", "sum f f g", "sum g f g", "sum h f h"]
            + ["sum h h f", "sum h f x", "sum H f g", "sum h1 f g", "sum abcdefghi f g", "sum h F g"]
        )

    def test_times(self):
        lines = "times h f 3\ntimes k f 0\ntimes l f 999999999\nshow h\nshow k\nshow l"
        expected = ["map h 0,0 1,3 0,2 1,1", "map k 0,0 0,0 0,0 0,0", "map l 0,0 1,3 0,2 1,1"]
        self.assertEqual(self.answers(lines), expected)
        self.wrong_lines(["times", "times h f", "times h f 3 3", "times f f 3", "times h x 3"])
        self.wrong_lines(["times h h 3", "times H f 3", "times h 3 f"])
        self.wrong_lines([f"times h f {number}" for number in BAD_NUMBERS])

    def test_step(self):
        lines = "step h f 1\nstep k f 0\nstep l f 3\nshow h\nshow k\nshow l"
        expected = ["map h 1,1 1,1 1,1 1,1", "map k 0,0 0,0 0,0 0,0", "map l 1,3 1,3 1,3 1,3"]
        self.assertEqual(self.answers(lines), expected)
        self.wrong_lines(["step", "step h f", "step h f 3 3", "step f f 3", "step h x 3", "step H f 3"])
        self.wrong_lines(["step h f 4", "step h f 31", "step h f 999999999"])
        self.wrong_lines([f"step h f {number}" for number in BAD_NUMBERS])

    def test_steps_of_groups_that_are_not_commutative(self):
        f = numbered_map(SMALL["symmetric"], (4,), 1)
        start = world_text(SMALL["symmetric"], (4,), {"f": f})
        for x in range(6):
            expected = "map h " + " ".join(text_of(value) for value in f.step(x))
            self.assertEqual(self.answers(f"step h f {x}\nshow h", start), [expected])

    def test_drop(self):
        self.assertEqual(self.answers("drop f\nmap f 0,0 0,0 0,0 0,0\ndegree f"), ["degree f -1"])
        self.assertEqual(self.answers("drop f\nsum f g g\ndrop g"), [])
        self.wrong_lines(["drop", "drop x", "drop f g", "drop F"])
        self.wrong(START + MAPS + "drop f\ndrop f", LATER + 1)
        self.wrong(START + MAPS + "drop f\nshow f", LATER + 1)

    def test_names_are_defined_line_after_line(self):
        self.wrong(START + "show f\n" + MAPS[:-1], FIRST)
        self.assertEqual(self.answers("sum h f g\ndrop h\nsum h g g\nshow h"), ["map h 0,0 0,0 0,0 0,0"])


class AnsweringTest(RunTest):
    def test_show(self):
        found = self.answers("show f\nshow g\nshow f")
        self.assertEqual(found, [MAPS.split("\n")[0], MAPS.split("\n")[1], MAPS.split("\n")[0]])
        self.wrong_lines(["show", "show x", "show f g", "show F", "show 1"])

    def test_degree(self):
        lines = "times z f 0\ndegree f\ndegree g\ndegree z"
        self.assertEqual(self.answers(lines), ["degree f 1", "degree g 0", "degree z -1"])
        f = numbered_map(SMALL["symmetric"], (3,), 1)
        start = world_text(SMALL["symmetric"], (3,), {"f": f})
        self.assertIsNone(degree(f))
        self.assertEqual(self.answers("degree f", start), ["degree f none"])
        self.wrong_lines(["degree", "degree x", "degree f g", "degree 1"])

    def test_total(self):
        self.assertEqual(self.answers("total f\ntotal g"), ["total f 0,2", "total g 0,0"])
        self.assertEqual(run("group 1\n0\ntarget\nmap f -\ntotal f"), ["total f -"])
        self.wrong_lines(["total", "total x", "total f g", "total 1"])

    def test_count(self):
        group, target = cyclic(4), Target([2, 4])
        for bound in (0, 1, 2, 3, 7, 999999999):
            expected = f"count {bound} {number_of_maps(group, target, bound)}"
            self.assertEqual(self.answers(f"count {bound}"), [expected])
        self.assertEqual(self.answers("count 0\ncount 1"), ["count 0 8", "count 1 64"])
        self.wrong_lines(["count", "count 1 1", "count f"])
        self.wrong_lines([f"count {number}" for number in BAD_NUMBERS])

    def test_zeros(self):
        found = self.answers("zeros\nzeros f\nzeros g\nzeros f g\nzeros f f")
        self.assertEqual(found, ["zeros 0 1 2 3", "zeros 0", "zeros", "zeros", "zeros 0"])
        self.wrong_lines(["zeros x", "zeros f x", "zeros x f", "zeros 0", "zeros f  g"])

    def test_promise(self):
        found = self.answers("promise 2\npromise 2 g\npromise 2 f\npromise 2 f g f")
        self.assertEqual(found[:2], ["promise 2 2", "promise 2 2"])
        group, target = cyclic(4), Target([2, 4])
        for names, answer in (("f", found[2]), ("fgf", found[3])):
            conditions = [({"f": 1, "g": 0}[name], target) for name in names]
            self.assertEqual(answer, f"promise 2 {promised_exponent(group, 2, conditions)}")

    def test_promise_with_other_primes(self):
        start = "group 3\n0 1 2\n1 2 0\n2 0 1\ntarget\nmap f - - -\n"
        found = self.answers("promise 3 f\npromise 2 f\npromise 31\npromise 29 f f", start)
        self.assertEqual(found, ["promise 3 1", "promise 2 0", "promise 31 0", "promise 29 0"])
        self.wrong_lines(["promise 37", "promise 37 f", "promise 999983 f"], start, 7)

    def test_wrong_promises(self):
        self.wrong_lines(["promise", "promise f", "promise f 2", "promise 2 x", "promise 2 f x"])
        self.wrong_lines([f"promise {number} f" for number in ("0", "1", "4", "9", "30", "32", "33")])
        self.wrong_lines([f"promise {number}" for number in ("3", "5", "31", "37", "999983", "02")])
        self.wrong_lines([f"promise {number} f" for number in BAD_NUMBERS])

    def test_promises_for_maps_without_a_degree(self):
        f = numbered_map(SMALL["symmetric"], (3,), 1)
        g = GroupMap.constant(f.group, f.target, (2,))
        start = world_text(SMALL["symmetric"], (3,), {"f": f, "g": g})
        line = start.count("\n") + 1
        self.assertEqual(self.answers("promise 3 g\npromise 3", start), ["promise 3 1"] * 2)
        self.wrong_lines(["promise 3 f", "promise 3 g f", "promise 3 f g", "promise 2 g"], start, line)

    def test_promise_for_a_composite_target(self):
        start = "group 2\n0 1\n1 0\ntarget 6\nmap f 0 3\n"
        self.wrong_lines(["promise 2 f", "promise 3", "promise 2"], start, 6)


class ExtendTest(RunTest):
    def test_against_extensions(self):
        group, target = cyclic(4), Target([2, 4])
        words = ["?", "0,0", "1,1", "0,2"]
        for chosen in product(words, repeat=4):
            partial = [None if w == "?" else tuple(int(part) for part in w.split(",")) for w in chosen]
            for bound in (0, 1, 2):
                lines = f"extend h {bound} {' '.join(chosen)}"
                count = extension_count(group, target, bound, partial)
                if count:
                    first = extension(group, target, bound, partial)
                    expected = "map h " + " ".join(text_of(value) for value in first)
                    found = self.answers(lines + "\nshow h")
                    self.assertEqual(found, [f"extend h {count}", expected])
                else:
                    self.assertEqual(self.answers(lines), ["extend h none"])
                    self.wrong(START + MAPS + lines + "\nshow h", LATER + 1)

    def test_a_line_without_extensions_leaves_the_name_free(self):
        lines = "extend h 0 0,0 1,1 ? ?\nmap h 0,0 0,0 0,0 0,0\nshow h"
        self.assertEqual(self.answers(lines), ["extend h none", "map h 0,0 0,0 0,0 0,0"])

    def test_huge_bounds(self):
        lines = "extend h 999999999 ? ? ? 1,3\nshow h"
        self.assertEqual(self.answers(lines), ["extend h 512", "map h 0,0 0,0 0,0 1,3"])

    def test_no_moduli(self):
        start = "group 2\n0 1\n1 0\ntarget\n"
        found = self.answers("extend h 0 ? -\nshow h", start)
        self.assertEqual(found, ["extend h 1", "map h - -"])

    def test_wrong_lines(self):
        self.wrong_lines(
            ["extend", "extend h", "extend h 1", "extend h 1 ? ? ?", "extend h 1 ? ? ? ? ?"]
            + ["extend f 1 ? ? ? ?", "extend H 1 ? ? ? ?", "extend abcdefghi 1 ? ? ? ?"]
            + ["extend h 1 ? ? ? 2,0", "extend h 1 0 ? ? ?", "extend h 1 ? 0,0,0 ? ?"]
            + ["extend h 1 ? ? ? -", "extend h 1 ? ? ? ??", "extend h 1 ? ? ? none"]
            + ["extend h 1 ? ? ? f", "extend h ? ? ? ? ?", "extend f 0 0,0 1,1 ? ?"]
        )
        self.wrong_lines([f"extend h {number} ? ? ? ?" for number in BAD_NUMBERS])


class WholeTest(RunTest):
    words = ["map", "sum", "times", "step", "drop", "show", "degree", "total", "count", "zeros"]

    def test_names_that_are_words(self):
        names = [*self.words, "promise", "extend", "group", "target", "none"]
        lines = [f"times {name} f {at}" for at, name in enumerate(names)]
        lines += [f"show {name}" for name in names]
        lines += ["zeros " + " ".join(names), "sum h sum map", "step k step 1", "drop drop", "degree degree"]
        found = self.answers("\n".join(lines))
        self.assertEqual(len(found), len(names) + 2)
        self.assertEqual(found[:2], ["map map 0,0 0,0 0,0 0,0", "map sum 0,0 1,1 0,2 1,3"])
        self.assertEqual(found[-2:], ["zeros 0", "degree degree 1"])

    def test_the_first_bad_line(self):
        self.wrong(START + MAPS + "show f\nshow x\nshow y\nmap", LATER + 1)
        self.wrong(START + MAPS + "count 01\nshow x", LATER)
        self.wrong(START + "show f\n\nmap", FIRST)

    def test_the_answers_are_in_order(self):
        lines = "count 0\nsum h f f\nshow h\nzeros\ndrop h\ntotal f\nextend h 0 ? ? ? ?\ndegree h"
        expected = ["count 0 8", "map h 0,0 0,2 0,0 0,2", "zeros 0 1 2 3", "total f 0,2"]
        self.assertEqual(self.answers(lines), [*expected, "extend h 8", "degree h -1"])

    def test_large_groups(self):
        for table in LARGE.values():
            moduli = (2, 8)
            maps = {"f": numbered_map(table, moduli, 1), "g": numbered_map(table, moduli, 2)}
            start = world_text(table, moduli, maps)
            group, target = maps["f"].group, maps["f"].target
            found = self.answers("total f\nzeros f g\ncount 2\ndegree g", start)
            zeros = common_zeros(group, list(maps.values()))
            told = degree(maps["g"])
            self.assertEqual(
                found,
                [
                    f"total f {text_of(total(maps['f']))}",
                    " ".join(["zeros", *[str(x) for x in zeros]]),
                    f"count 2 {number_of_maps(group, target, 2)}",
                    f"degree g {'none' if told is None else told}",
                ],
            )

    def test_two_runs_know_nothing_of_each_other(self):
        run(START + MAPS[:-1])
        self.wrong(START + "show f", FIRST)

    def test_the_list_is_new(self):
        text = START + MAPS + "show f"
        run(text).clear()
        self.assertEqual(run(text), [MAPS.split("\n")[0]])


if __name__ == "__main__":
    unittest.main()
