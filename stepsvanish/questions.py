"""Questions about the maps of a world, which are asked and answered by lines."""

from stepsvanish.degrees import degree
from stepsvanish.listing import number_of_maps
from stepsvanish.numbers import is_power, is_prime
from stepsvanish.partial import extension, extension_count
from stepsvanish.totals import total
from stepsvanish.worlds import (
    Line,
    define_map,
    later_lines,
    map_line,
    read_start,
    written_value,
)
from stepsvanish.zeros import common_zeros, promised_exponent

# The greatest prime number that a line may name.
GREATEST_PRIME = 31


def _define(world, line):
    define_map(world, line)


def _add(world, line):
    line.check_count(4)
    name = line.new_name(1, world)
    world.define(name, line.known_map(2, world) + line.known_map(3, world))


def _multiply(world, line):
    line.check_count(4)
    name = line.new_name(1, world)
    world.define(name, line.known_map(2, world) * line.integer(3))


def _step(world, line):
    line.check_count(4)
    name = line.new_name(1, world)
    f = line.known_map(2, world)
    element = line.integer(3)
    line.check(element < world.group.order)
    world.define(name, f.step(element))


def _drop(world, line):
    line.check_count(2)
    line.known_map(1, world)
    world.drop(line.words[1])


def _show(world, line):
    line.check_count(2)
    return map_line(line.words[1], line.known_map(1, world))


def _tell_degree(world, line):
    line.check_count(2)
    found = degree(line.known_map(1, world))
    word = "none" if found is None else str(found)
    return f"degree {line.words[1]} {word}"


def _tell_total(world, line):
    line.check_count(2)
    value = total(line.known_map(1, world))
    return f"total {line.words[1]} {written_value(value)}"


def _count(world, line):
    line.check_count(2)
    bound = line.integer(1)
    return f"count {bound} {number_of_maps(world.group, world.target, bound)}"


def _zeros(world, line):
    zeros = common_zeros(world.group, _maps_from(1, world, line))
    return " ".join(["zeros", *[str(x) for x in zeros]])


def _promise(world, line):
    line.check(len(line.words) > 1)
    prime = line.integer(1)
    line.check(prime <= GREATEST_PRIME and is_prime(prime))
    line.check(is_power(world.target.order, prime))
    bounds = [degree(f) for f in _maps_from(2, world, line)]
    line.check(None not in bounds)
    conditions = [(bound, world.target) for bound in bounds]
    return f"promise {prime} {promised_exponent(world.group, prime, conditions)}"


def _extend(world, line):
    line.check_count(world.group.order + 3)
    name = line.new_name(1, world)
    bound = line.integer(2)
    partial = []
    for at in range(3, len(line.words)):
        partial.append(None if line.words[at] == "?" else line.value(at, world.target))
    found = extension(world.group, world.target, bound, partial)
    if found is None:
        return f"extend {name} none"
    world.define(name, found)
    return f"extend {name} {extension_count(world.group, world.target, bound, partial)}"


def _maps_from(start, world, line):
    """The maps whose names are the words from a number on."""
    return [line.known_map(at, world) for at in range(start, len(line.words))]


ACTIONS = {
    "map": _define,
    "sum": _add,
    "times": _multiply,
    "step": _step,
    "drop": _drop,
    "show": _show,
    "degree": _tell_degree,
    "total": _tell_total,
    "count": _count,
    "zeros": _zeros,
    "promise": _promise,
    "extend": _extend,
}


def run(text):
    """The answers to the lines of a text, in their order."""
    lines = text.split("\n")
    world = read_start(lines)
    numbers = later_lines(lines, world)
    answers = []
    for number in numbers:
        line = Line(lines, number)
        word = line.words[0]
        line.check(word in ACTIONS)
        action = ACTIONS[word]
        answer = action(world, line)
        if answer is not None:
            answers.append(answer)
    return answers
