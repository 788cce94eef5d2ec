import unittest
from itertools import islice, product

from samples import (
    CASES,
    HUGE,
    LARGE,
    SMALL,
    WRONG,
    RaisesTest,
    case_objects,
    listed_images,
    numbered_map,
)
from stepsvanish.building import cyclic
from stepsvanish.desk import Desk
from stepsvanish.errors import Conflict, InvalidElement, InvalidValue
from stepsvanish.groups import Group
from stepsvanish.listing import map_at, number_of_maps
from stepsvanish.maps import GroupMap
from stepsvanish.partial import is_refutation
from stepsvanish.targets import Target

BOUNDS = (-1, 0, 1, 2, HUGE)


def state(desk):
    return (desk.bound, desk.told(), desk.undo_count)


def agreeing(name, moduli, bound, told):
    """The images of the maps that remain, ascending."""
    return [
        images
        for images in listed_images(name, moduli, bound)
        if all(entry is None or entry == images[x] for x, entry in enumerate(told))
    ]


class DeskTest(RaisesTest):
    def conflict(self, desk, images, bound, call, *arguments):
        """The call raises a Conflict that refutes the images for the bound."""
        before = state(desk)
        with self.assertRaises(Conflict) as caught:
            call(*arguments)
        error = caught.exception
        self.assertIs(error.coefficients.__class__, list)
        found = is_refutation(
            desk.group, desk.target, bound, images, error.component, error.coefficients
        )
        self.assertIs(found, True)
        self.assertEqual(state(desk), before)

    def check(self, desk, name, moduli):
        """All answers of the desk against all maps."""
        told = desk.told()
        maps = agreeing(name, moduli, desk.bound, told)
        self.assertEqual(desk.remaining(), len(maps))
        self.assertGreater(len(maps), 0)
        self.assertEqual(desk.least().images, maps[0])
        self.assertIs(desk.least().__class__, GroupMap)
        found = [f.images for f in islice(desk.maps(), 40)]
        self.assertEqual(found, maps[:40])
        self.assertEqual(desk.places(), [x for x, value in enumerate(told) if value is not None])
        settled = [x for x in range(desk.group.order) if len({f[x] for f in maps}) == 1]
        self.assertEqual(desk.settled(), settled)
        for x in range(desk.group.order):
            self.assertEqual(desk.image(x), maps[0][x] if x in settled else None)


class TellTest(DeskTest):
    def test_every_value_at_every_element(self):
        for name, moduli in CASES:
            group, target = case_objects(name, moduli)
            for bound in BOUNDS:
                desk = Desk(group, target, bound)
                for x in [*range(0, group.order, 2), *range(1, group.order, 2)]:
                    told = desk.told()
                    right = None
                    for value in target.all_values():
                        images = [value if y == x else entry for y, entry in enumerate(told)]
                        if agreeing(name, moduli, bound, images):
                            right = value
                        else:
                            self.conflict(desk, images, bound, desk.tell, x, value)
                            self.conflict(desk, images, bound, desk.tell_all, [(x, value)])
                    self.assertIsNone(desk.tell(x, right))
                    told[x] = right
                    self.assertEqual(desk.told(), told)
                    self.check(desk, name, moduli)
                self.assertEqual(desk.remaining(), 1)
                self.assertEqual(desk.undo_count, group.order)

    def test_an_image_is_replaced(self):
        desk = Desk(cyclic(4), Target([4]), 1)
        desk.tell(0, (1,))
        desk.tell(0, (3,))
        self.assertEqual(desk.told(), [(3,), None, None, None])
        desk.tell(1, (0,))
        desk.tell(0, (2,))
        self.assertEqual(desk.least().images, ((2,), (0,), (2,), (0,)))
        self.assertEqual(desk.undo_count, 4)

    def test_the_same_image_again(self):
        desk = Desk(cyclic(4), Target([4]), 1)
        desk.tell(2, (2,))
        desk.tell(2, (2,))
        desk.tell_all([(2, (2,)), (2, (2,))])
        self.assertEqual(state(desk), (1, [None, None, (2,), None], 1))

    def test_wrong_elements_and_values(self):
        for moduli, right, wrongs in (
            ((), (), [(0,)]),
            ((2, 3), (0, 0), [(), (0,), (2, 0), (0, 3), (-1, 0), (0, 0, 0), (0, 10**5000)]),
        ):
            for group in (cyclic(1), cyclic(4)):
                desk = Desk(group, Target(list(moduli)), -1)
                for x in (*WRONG, group.order):
                    for value in (right, *wrongs):
                        self.refused(InvalidElement, desk.tell, x, value)
                        self.refused(InvalidElement, desk.tell_all, [(0, right), (x, value)])
                for wrong in wrongs:
                    self.refused(InvalidValue, desk.tell, 0, wrong)
                    self.refused(InvalidValue, desk.tell_all, [(0, right), (0, wrong)])
                self.assertEqual(state(desk), (-1, [None] * group.order, 0))

    def test_conflicts_come_last(self):
        desk = Desk(cyclic(4), Target([2]), -1)
        self.refused(InvalidElement, desk.tell, 4, (1,))
        self.refused(InvalidValue, desk.tell, 0, (2,))
        self.conflict(desk, [(1,), None, None, None], -1, desk.tell, 0, (1,))

    def test_large_groups(self):
        for table in LARGE.values():
            group = Group(table)
            for moduli, bound in (((2,), 2), ((4, 8), 3), ((3,), HUGE), ((32,), 1)):
                target = Target(list(moduli))
                number = number_of_maps(group, target, bound)
                f = map_at(group, target, bound, number // 3)
                desk = Desk(group, target, bound)
                self.assertEqual(desk.remaining(), number)
                for x in range(group.order - 1, -1, -3):
                    desk.tell(x, f(x))
                self.assertEqual(number % desk.remaining(), 0)
                desk.tell_all(list(enumerate(f)))
                self.assertTrue(desk.least() == f)
                self.assertEqual(desk.remaining(), 1)
                self.assertEqual(desk.settled(), list(range(group.order)))


class TellAllTest(DeskTest):
    def test_several_pairs(self):
        for name, moduli in CASES:
            group, target = case_objects(name, moduli)
            for bound in (0, 1, HUGE):
                for images in listed_images(name, moduli, bound)[::37]:
                    pairs = [(x, images[x]) for x in range(group.order)][::-2]
                    kept = list(pairs)
                    desk = Desk(group, target, bound)
                    self.assertIsNone(desk.tell_all(pairs))
                    self.assertEqual(pairs, kept)
                    self.assertEqual(desk.undo_count, 1)
                    self.check(desk, name, moduli)

    def test_no_pairs(self):
        desk = Desk(cyclic(4), Target([4]), 1)
        desk.tell_all([])
        self.assertEqual(state(desk), (1, [None] * 4, 0))

    def test_failures_in_the_middle(self):
        desk = Desk(cyclic(4), Target([2]), 1)
        desk.tell(3, (1,))
        before = state(desk)
        for pairs, error in (
            ([(0, (0,)), (4, (0,)), (1, (0,))], InvalidElement),
            ([(0, (0,)), (1, (2,)), (-1, (0,))], InvalidValue),
            ([(0, (0,)), (1, (0,)), (2, (5,))], Conflict),
            ([(0, (0,)), (1, (0,)), (9, (5,))], Conflict),
            ([(9, (5,)), (0, (0,)), (1, (0,))], InvalidElement),
            ([(0, (5,)), (9, (0,)), (1, (0,))], InvalidValue),
            # The last pair alone would set the first ones right.
            ([(1, (0,)), (3, (0,))], Conflict),
        ):
            self.refused(error, desk.tell_all, pairs)
            self.assertEqual(state(desk), before)

    def test_the_images_after_the_pair_that_fails(self):
        desk = Desk(cyclic(4), Target([2]), 1)
        pairs = [(0, (0,)), (1, (0,)), (2, (1,)), (3, (1,))]
        self.conflict(desk, [(0,), (0,), (1,), None], 1, desk.tell_all, pairs)
        desk.tell(0, (1,))
        self.conflict(desk, [(0,), (0,), (1,), None], 1, desk.tell_all, pairs)

    def test_an_element_that_occurs_twice(self):
        desk = Desk(cyclic(4), Target([2]), HUGE)
        desk.tell_all([(1, (0,)), (2, (1,)), (1, (1,))])
        self.assertEqual(state(desk), (HUGE, [None, (1,), (1,), None], 1))
        desk.tell_all([(1, (0,)), (1, (1,))])
        self.assertEqual(desk.undo_count, 1)


class ForgetTest(DeskTest):
    def test_forgetting(self):
        desk = Desk(cyclic(4), Target([2]), 1)
        desk.tell_all([(0, (0,)), (1, (1,))])
        self.assertIsNone(desk.forget(1))
        self.assertEqual(state(desk), (1, [(0,), None, None, None], 2))
        self.check(desk, "four", (2,))
        desk.forget(1)
        desk.forget(2)
        self.assertEqual(desk.undo_count, 2)
        desk.forget(0)
        self.assertEqual(state(desk), (1, [None] * 4, 3))
        self.check(desk, "four", (2,))

    def test_wrong_elements(self):
        for group in (cyclic(1), cyclic(4)):
            desk = Desk(group, Target([2]), 1)
            desk.tell(0, (1,))
            for wrong in (*WRONG, group.order):
                self.refused(InvalidElement, desk.forget, wrong)
                self.refused(InvalidElement, desk.image, wrong)
            self.assertEqual(desk.undo_count, 1)


class BoundTest(DeskTest):
    def test_changing_the_bound(self):
        for name, moduli in CASES:
            group, target = case_objects(name, moduli)
            for images in listed_images(name, moduli, HUGE)[::29]:
                desk = Desk(group, target, HUGE)
                desk.tell_all(list(enumerate(images))[::2])
                told = desk.told()
                for bound in (3, 2, 1, 0, -1, HUGE + 1, 10**5000, 0):
                    if agreeing(name, moduli, bound, told):
                        self.assertIsNone(desk.change_bound(bound))
                        self.assertEqual(desk.bound, bound)
                        self.check(desk, name, moduli)
                    else:
                        self.conflict(desk, told, bound, desk.change_bound, bound)
                    self.assertEqual(desk.told(), told)

    def test_the_same_bound(self):
        desk = Desk(cyclic(4), Target([2]), 1)
        desk.change_bound(1)
        self.assertEqual(desk.undo_count, 0)
        desk.change_bound(2)
        desk.change_bound(2)
        self.assertEqual(desk.undo_count, 1)

    def test_properties_are_only_read(self):
        desk = Desk(cyclic(4), Target([2]), 1)
        for name in ("bound", "undo_count"):
            with self.assertRaises(AttributeError):
                setattr(desk, name, 5)
        self.assertEqual((desk.bound, desk.undo_count), (1, 0))


class UndoTest(DeskTest):
    def test_there_and_back(self):
        desk = Desk(cyclic(4), Target([2]), 1)
        self.assertIs(desk.undo(), False)
        states = [(desk.bound, desk.told(), desk.remaining())]
        for change in (
            lambda: desk.tell(0, (1,)),
            lambda: desk.change_bound(2),
            lambda: desk.tell_all([(1, (0,)), (3, (1,))]),
            lambda: desk.forget(1),
            lambda: desk.change_bound(HUGE),
            lambda: desk.tell(2, (1,)),
            lambda: desk.tell(2, (0,)),
            lambda: desk.forget(0),
        ):
            change()
            states.append((desk.bound, desk.told(), desk.remaining()))
            self.assertEqual(desk.undo_count, len(states) - 1)
        while len(states) > 1:
            states.pop()
            self.assertIs(desk.undo(), True)
            self.assertEqual((desk.bound, desk.told(), desk.remaining()), states[-1])
            self.assertEqual(desk.undo_count, len(states) - 1)
            self.check(desk, "four", (2,))
        for _ in range(3):
            self.assertIs(desk.undo(), False)
            self.assertEqual(state(desk), (1, [None] * 4, 0))

    def test_calls_that_are_no_changes(self):
        desk = Desk(cyclic(4), Target([2]), 1)
        desk.tell(0, (1,))
        desk.tell(1, (1,))
        desk.tell(1, (1,))
        desk.forget(3)
        desk.change_bound(1)
        desk.tell_all([])
        self.refused(Conflict, desk.change_bound, -1)
        self.refused(InvalidValue, desk.tell, 1, (2,))
        self.refused(InvalidElement, desk.forget, 4)
        self.assertEqual(desk.undo_count, 2)
        desk.undo()
        self.assertEqual(state(desk), (1, [(1,), None, None, None], 1))

    def test_changes_after_an_undo(self):
        desk = Desk(cyclic(4), Target([2]), 1)
        desk.tell(0, (1,))
        desk.tell(1, (1,))
        desk.undo()
        desk.tell(1, (0,))
        self.assertEqual(state(desk), (1, [(1,), (0,), None, None], 2))
        desk.undo()
        desk.undo()
        self.assertEqual(state(desk), (1, [None] * 4, 0))

    def test_very_many_changes(self):
        desk = Desk(cyclic(2), Target([2]), 1)
        for at in range(3000):
            desk.tell(1, ((at + 1) % 2,))
        self.assertEqual(desk.undo_count, 3000)
        for at in range(3000):
            self.assertIs(desk.undo(), True)
        self.assertEqual(state(desk), (1, [None, None], 0))


class AnswersTest(DeskTest):
    def test_all_partial_maps(self):
        for name, moduli in (("two", (4,)), ("three", (3,)), ("klein", (2,)), ("three", (6,))):
            group, target = case_objects(name, moduli)
            values = [None, *target.all_values()]
            for told in product(values, repeat=group.order):
                for bound in (0, 1, 2):
                    if agreeing(name, moduli, bound, told):
                        desk = Desk(group, target, bound)
                        pairs = [(x, value) for x, value in enumerate(told) if value is not None]
                        desk.tell_all(pairs)
                        self.check(desk, name, moduli)

    def test_very_many_maps(self):
        for table in LARGE.values():
            group, target = Group(table), Target([4, 8])
            for bound in (2, HUGE):
                desk = Desk(group, target, bound)
                desk.tell(5, (1, 5))
                found = list(islice(desk.maps(), 5))
                self.assertTrue(found[0] == desk.least())
                self.assertEqual([f.images for f in found], sorted({f.images for f in found}))
                for f in found:
                    self.assertEqual(f(5), (1, 5))

    def test_no_moduli(self):
        for group in (cyclic(1), Group(SMALL["symmetric"])):
            for bound in BOUNDS:
                desk = Desk(group, Target([]), bound)
                self.assertEqual(desk.remaining(), 1)
                self.assertEqual(desk.settled(), list(range(group.order)))
                self.assertEqual(desk.image(0), ())
                self.assertEqual(len(list(desk.maps())), 1)
                desk.tell(0, ())
                self.assertEqual(desk.undo_count, 1)

    def test_lists_are_new(self):
        desk = Desk(cyclic(4), Target([2]), 1)
        desk.tell(1, (1,))
        for answer in (desk.told(), desk.places(), desk.settled()):
            self.assertIs(answer.__class__, list)
            answer.clear()
        self.assertEqual(desk.told(), [None, (1,), None, None])
        self.assertEqual(desk.places(), [1])
        self.assertEqual(desk.settled(), [1, 3])
        self.assertEqual(desk.image(3), (1,))
        self.assertIsNone(desk.image(0))

    def test_attributes(self):
        group, target = cyclic(4), Target([2])
        desk = Desk(group, target, 1)
        self.assertTrue(desk.group == group and desk.target == target)
        self.assertEqual((desk.bound, desk.undo_count), (1, 0))
        self.assertEqual(desk.told(), [None] * 4)
        self.assertEqual(desk.places(), [])

    def test_two_desks_beside_each_other(self):
        group, target = cyclic(4), Target([2])
        first, second = Desk(group, target, 1), Desk(group, target, 1)
        first.tell(0, (1,))
        second.tell(1, (0,))
        second.change_bound(3)
        self.assertEqual(state(first), (1, [(1,), None, None, None], 1))
        self.assertEqual(state(second), (3, [None, (0,), None, None], 2))
        lists = [first.maps(), second.maps()]
        self.assertEqual(next(lists[0]).images[0], (1,))
        self.assertEqual(next(lists[1]).images[1], (0,))
        first.undo()
        self.assertEqual(second.undo_count, 2)

    def test_the_map_agrees_with_all_that_is_told(self):
        f = numbered_map(SMALL["alternating"], (4,), 1)
        desk = Desk(f.group, f.target, HUGE)
        for x in range(f.group.order):
            try:
                desk.tell(x, f(x))
            except Conflict as error:
                images = desk.told()
                images[x] = f(x)
                arguments = (f.group, f.target, HUGE, images, error.component, error.coefficients)
                self.assertIs(is_refutation(*arguments), True)
        self.assertGreater(len(desk.places()), 0)
        for x in desk.places():
            self.assertEqual(desk.least()(x), f(x))


if __name__ == "__main__":
    unittest.main()
