"""A desk that keeps images of a map, which are told element by element."""

from stepsvanish.choices import Choices
from stepsvanish.errors import Conflict, InvalidValue
from stepsvanish.places import determined_on
from stepsvanish.powers import target_lattices


class Desk:
    """Images of a map of bounded degree; at least one map always remains."""

    def __init__(self, group, target, bound):
        self.group = group
        self.target = target
        self._bound = bound
        self._lattices = target_lattices(group, target, bound + 1)
        # A list of images is never changed, so the past may share it.
        self._told = [None] * group.order
        self._past = []

    @property
    def bound(self):
        """The bound of the degrees."""
        return self._bound

    @property
    def undo_count(self):
        """The number of changes that can be taken back."""
        return len(self._past)

    def tell(self, element, value):
        """Tell the image of an element."""
        self.tell_all([(element, value)])

    def tell_all(self, pairs):
        """Tell the images of several elements, one after another, or none of them."""
        images = self.told()
        for element, value in pairs:
            self.group.require([element])
            if not self.target.is_value(value):
                raise InvalidValue("the tuple is not a value of the target")
            images[element] = value
            self._require_remaining(self._lattices, images)
        self._change(self._bound, self._lattices, images)

    def forget(self, element):
        """Take back the image of an element."""
        self.group.require([element])
        images = self.told()
        images[element] = None
        self._change(self._bound, self._lattices, images)

    def change_bound(self, bound):
        """Change the bound of the degrees."""
        lattices = target_lattices(self.group, self.target, bound + 1)
        self._require_remaining(lattices, self._told)
        self._change(bound, lattices, self._told)

    def undo(self):
        """Take back the last change; False if there is none."""
        if len(self._past) == 0:
            return False
        bound, images = self._past.pop()
        if bound != self._bound:
            self._lattices = target_lattices(self.group, self.target, bound + 1)
        self._bound = bound
        self._told = images
        return True

    def told(self):
        """The images told, with None where nothing is told."""
        return list(self._told)

    def places(self):
        """The elements whose images are told, ascending."""
        return [x for x, value in enumerate(self._told) if value is not None]

    def remaining(self):
        """The number of remaining maps."""
        return self._choices(self._lattices, self._told).number()

    def settled(self):
        """The elements at which all remaining maps have the same image, ascending."""
        return determined_on(self._lattices, self.group.order, self.places())

    def image(self, element):
        """The image under all remaining maps, or None if they differ there."""
        self.group.require([element])
        if element not in self.settled():
            return None
        return self.least().images[element]

    def least(self):
        """The first remaining map."""
        return self._choices(self._lattices, self._told).map_with(0)

    def maps(self):
        """Yield the remaining maps in ascending order."""
        choices = self._choices(self._lattices, self._told)
        for position in range(choices.number()):
            yield choices.map_with(position)

    def _choices(self, lattices, images):
        return Choices(self.group, self.target, lattices, images)

    def _require_remaining(self, lattices, images):
        choices = self._choices(lattices, images)
        found = choices.conflict()
        if found is not None:
            place, at = found
            raise Conflict(at, choices.refuting(place, at))

    def _change(self, bound, lattices, images):
        if bound != self._bound or images != self._told:
            self._past.append((self._bound, self._told))
            self._bound = bound
            self._lattices = lattices
            self._told = images
