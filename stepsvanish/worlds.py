"""Worlds, which keep maps with names, and their texts."""

from stepsvanish.errors import (
    InvalidGroup,
    InvalidName,
    InvalidTarget,
    InvalidText,
    LimitExceeded,
    Mismatch,
    UnknownName,
)
from stepsvanish.groups import LIMIT, Group
from stepsvanish.maps import GroupMap
from stepsvanish.targets import Target

LETTERS = "abcdefghijklmnopqrstuvwxyz"
DIGITS = "0123456789"

# The greatest numbers of letters of a name and of digits of an integer.
NAME_LENGTH = 8
DIGIT_COUNT = 9


class World:
    """Maps with names, all of one group and one target."""

    def __init__(self, group, target):
        self.group = group
        self.target = target
        self._named = {}

    def __contains__(self, name):
        return name in self._named

    def __iter__(self):
        return iter(self._named)

    def define(self, name, f):
        """Give a map a name that is not taken."""
        if not is_name(name) or name in self._named:
            raise InvalidName("the string is not a name, or the name is taken")
        if f.group != self.group or f.target != self.target:
            raise Mismatch("the map has another group or another target than the world")
        self._named[name] = f

    def map_of(self, name):
        """The map with the name."""
        self._require_known(name)
        return self._named[name]

    def drop(self, name):
        """Remove the name."""
        self._require_known(name)
        del self._named[name]

    def _require_known(self, name):
        if name not in self._named:
            raise UnknownName("no map of the world has the name")


class Line:
    """One line of a text, as a list of words.

    Whatever is not as it must be in the line raises InvalidText.
    """

    def __init__(self, lines, line):
        if line > len(lines):
            raise InvalidText(line)
        self.line = line
        self.words = lines[line - 1].split(" ")
        self.check("" not in self.words)

    def check(self, holds):
        """Raise InvalidText unless the condition holds."""
        if not holds:
            raise InvalidText(self.line)

    def check_count(self, count):
        """Raise InvalidText unless there are so many words."""
        self.check(len(self.words) == count)

    def integer(self, at):
        """The integer that word number `at` writes."""
        number = parsed_integer(self.words[at])
        self.check(number is not None)
        return number

    def integers(self, start):
        """The integers that the words from a number on write."""
        return [self.integer(at) for at in range(start, len(self.words))]

    def value(self, at, target):
        """The value of the target that word number `at` writes."""
        value = parsed_value(self.words[at], target)
        self.check(value is not None)
        return value

    def new_name(self, at, world):
        """Word number `at`, which must be a name that no map has."""
        name = self.words[at]
        self.check(is_name(name) and name not in world)
        return name

    def known_map(self, at, world):
        """The map whose name is word number `at`."""
        name = self.words[at]
        self.check(name in world)
        return world.map_of(name)


def is_name(text):
    """True if the string can be the name of a map."""
    return 1 <= len(text) <= NAME_LENGTH and all([letter in LETTERS for letter in text])


def parsed_integer(word):
    """The integer that a word writes, or None if it does not write one."""
    if not 1 <= len(word) <= DIGIT_COUNT or not all([sign in DIGITS for sign in word]):
        return None
    if len(word) > 1 and word[0] == "0":
        return None
    return int(word)


def parsed_value(word, target):
    """The value of the target that a word writes, or None if it does not write one."""
    if len(target.moduli) == 0:
        return () if word == "-" else None
    entries = [parsed_integer(part) for part in word.split(",")]
    if None in entries or not target.is_value(entries):
        return None
    return tuple(entries)


def written_value(value):
    """The word for a value."""
    if len(value) == 0:
        return "-"
    return ",".join([str(entry) for entry in value])


def map_line(name, f):
    """The line of a map in the text of a world."""
    return " ".join(["map", name, *[written_value(value) for value in f.images]])


def write_world(world):
    """The text of the world."""
    lines = [f"group {world.group.order}"]
    for row in world.group.rows:
        lines.append(" ".join([str(entry) for entry in row]))
    lines.append(" ".join(["target", *[str(modulus) for modulus in world.target.moduli]]))
    for name in world:
        lines.append(map_line(name, world.map_of(name)))
    return "\n".join(lines)


def read_world(text):
    """The world that a text writes."""
    lines = text.split("\n")
    world = read_start(lines)
    numbers = later_lines(lines, world)
    for number in numbers:
        line = Line(lines, number)
        line.check(line.words[0] == "map")
        define_map(world, line)
    return world


def read_start(lines):
    """The world without maps that the lines up to that of the target give."""
    first = Line(lines, 1)
    first.check_count(2)
    first.check(first.words[0] == "group")
    order = first.integer(1)
    first.check(1 <= order <= LIMIT)
    group = _read_table(lines, order)
    last = Line(lines, order + 2)
    last.check(last.words[0] == "target")
    moduli = last.integers(1)
    try:
        target = Target(moduli)
    except (InvalidTarget, LimitExceeded):
        raise InvalidText(order + 2) from None
    return World(group, target)


def later_lines(lines, world):
    """The numbers of the lines behind that of the target."""
    return list(range(world.group.order + 3, len(lines) + 1))


def define_map(world, line):
    """Define the map of a line `map NAME v ..`."""
    line.check_count(world.group.order + 2)
    name = line.new_name(1, world)
    images = [line.value(at, world.target) for at in range(2, len(line.words))]
    world.define(name, GroupMap(world.group, world.target, images))


def _read_table(lines, order):
    table = []
    for number in range(2, order + 2):
        line = Line(lines, number)
        line.check_count(order)
        row = line.integers(0)
        line.check(max(row) < order)
        table.append(row)
    try:
        group = Group(table)
    except InvalidGroup:
        # The table as a whole is the matter of the line that begins the group.
        raise InvalidText(1) from None
    return group
