"""Maps from a group to a target."""

from stepsvanish.errors import InvalidIndex, InvalidValue, InvalidVector, Mismatch


class GroupMap:
    """A map that is given by its images, in ascending order of the elements."""

    def __init__(self, group, target, images):
        if len(images) != group.order:
            raise InvalidValue("there is not one image for each element")
        for image in images:
            if not target.is_value(image):
                raise InvalidValue("an image is not a value of the target")
        self.group = group
        self.target = target
        self.images = tuple(images)

    @staticmethod
    def constant(group, target, value):
        """The map that assigns the value to every element."""
        return GroupMap(group, target, [value] * group.order)

    @staticmethod
    def from_parts(group, target, parts):
        """The map with the given integers as parts, reduced modulo the moduli."""
        if len(parts) != len(target.moduli):
            raise InvalidValue("there is not one list for each modulus")
        for numbers in parts:
            if len(numbers) != group.order:
                raise InvalidValue("a list has not one integer for each element")
        columns = []
        for numbers, modulus in zip(parts, target.moduli):
            columns.append([number % modulus for number in numbers])
        images = [tuple([column[x] for column in columns]) for x in range(group.order)]
        return GroupMap(group, target, images)

    def __call__(self, element):
        self.group.require([element])
        return self.images[element]

    def __iter__(self):
        return iter(self.images)

    def __eq__(self, other):
        return (
            isinstance(other, GroupMap)
            and self.group == other.group
            and self.target == other.target
            and self.images == other.images
        )

    def __add__(self, other):
        self._require_same(other)
        images = [self.target.plus(v, w) for v, w in zip(self.images, other.images)]
        return GroupMap(self.group, self.target, images)

    def __sub__(self, other):
        self._require_same(other)
        images = [self.target.minus(v, w) for v, w in zip(self.images, other.images)]
        return GroupMap(self.group, self.target, images)

    def __neg__(self):
        images = [self.target.times(-1, value) for value in self.images]
        return GroupMap(self.group, self.target, images)

    def __mul__(self, factor):
        images = [self.target.times(factor, value) for value in self.images]
        return GroupMap(self.group, self.target, images)

    def _require_same(self, other):
        if self.group != other.group:
            raise Mismatch("the groups of the maps differ")
        if self.target != other.target:
            raise Mismatch("the targets of the maps differ")

    def part(self, at):
        """The list of part number `at` of all images."""
        if not 0 <= at < len(self.target.moduli):
            raise InvalidIndex("the target has no such part")
        return [value[at] for value in self.images]

    def is_zero(self):
        """True if every image is zero."""
        return all([value == self.target.zero for value in self.images])

    def step(self, element):
        """The difference by the element: f(xa) - f(x)."""
        self.group.require([element])
        return self._arranged([row[element] for row in self.group.rows]) - self

    def left_step(self, element):
        """The left difference by the element: f(ax) - f(x)."""
        return self.translated(element) - self

    def translated(self, element):
        """The translate by the element: f(ax)."""
        self.group.require([element])
        return self._arranged(self.group.rows[element])

    def _arranged(self, places):
        images = [self.images[place] for place in places]
        return GroupMap(self.group, self.target, images)

    def evaluate(self, coefficients):
        """The value at a formal sum: the sum of the coefficients times the images."""
        if len(coefficients) != self.group.order:
            raise InvalidVector("there is not one coefficient for each element")
        total = self.target.zero
        for coefficient, value in zip(coefficients, self.images):
            total = self.target.plus(total, self.target.times(coefficient, value))
        return total
