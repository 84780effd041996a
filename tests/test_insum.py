"""[12] ALIKE IN SUM, and a PARTING IN SUM."""

import copy
import unittest

from onlyalike.alike import are_alike, parting_of
from onlyalike.errors import BadMachine, TooMany
from onlyalike.insum import alike_in_sum, parting_in_sum
from onlyalike.machines import behaviour_for
from onlyalike.things import is_plain_list
from made import (
    FIRST_TWO, NEIGHBOUR, NEIGHBOUR_TOO, ask, end, go, machine_pairs, one_state, plain_lists, ring_machine, summed,
    wide_machine, wrong_things,
)

BARE = one_state(go())
# Each tells all items in their order: at once, a moment later, two moments later.
AT_ONCE = one_state(go((("item",),)))
LATER = one_state(go((("box", "x"),), (("keep", "x"),)), end("yes", (("box", "x"),)), (), ("x",))
MUCH_LATER = one_state(go((("box", "x"),), (("copy", "y", "x"), ("keep", "y"))), end(
    "yes", (("box", "x"), ("box", "y"))), (), ("x", "y"))
# Each tells the first two unlike items: as they come, or all of them at the end.
TWO_AT_ONCE = one_state(
    ask(("empty", "a"), go((("item",),), (("keep", "a"),)),
        ask(("item", "a"), go(), ask(("empty", "b"), go((("item",),), (("keep", "b"),)), go()))), None, (), ("a", "b"))
TWO_LAST = one_state(
    ask(("empty", "a"), go((), (("keep", "a"),)),
        ask(("item", "a"), go(), ask(("empty", "b"), go((), (("keep", "b"),)), go()))),
    end("yes", (("box", "a"), ("box", "b"))), (), ("a", "b"))


class Sums(unittest.TestCase):
    def parted(self, one, other, many):
        """The PARTING IN SUM, having so many items, is one, and no shorter list is."""
        words = tuple(sorted({*one[0], *other[0]}))
        for first, second in ((one, other), (other, one)):
            way = parting_in_sum(first, second)
            self.assertIs(alike_in_sum(first, second), False)
            self.assertEqual(len(way), many)
            self.assertTrue(is_plain_list(words, way))
            self.assertNotEqual(summed(behaviour_for(one, way)), summed(behaviour_for(other, way)))
        for things in plain_lists(words, many - 1) if many else ():
            self.assertEqual(summed(behaviour_for(one, things)), summed(behaviour_for(other, things)))

    def alike(self, one, other):
        for first, second in ((one, other), (other, one)):
            self.assertIs(parting_in_sum(first, second), None)
            self.assertIs(alike_in_sum(first, second), True)

    def test_all_a_moment_later(self):
        for one, other in ((AT_ONCE, LATER), (AT_ONCE, MUCH_LATER), (LATER, MUCH_LATER)):
            self.alike(one, other)
            self.assertIs(are_alike(one, other), False)

    def test_what_is_told_first_in_the_last_row(self):
        self.alike(TWO_AT_ONCE, TWO_LAST)
        self.alike(FIRST_TWO, FIRST_TWO)
        self.assertIs(are_alike(TWO_AT_ONCE, TWO_LAST), False)
        words = one_state(ask(("word", "w"), go((("word", "w"),), (("keep", "x"),)), go()), None, ("w",), ("x",))
        at_end = one_state(ask(("holds", "x", "w"), go(), ask(("word", "w"), go((), (("keep", "x"),)), go())), ask(
            ("holds", "x", "w"), end("yes", (("word", "w"),)), end()), ("w",), ("x",))
        self.parted(words, at_end, 2)
        once = one_state(ask(("holds", "x", "w"), go(), ask(("word", "w"), go((("item",),), (("keep", "x"),)), go())), None,
                         ("w",), ("x",))
        self.alike(once, at_end)

    def test_a_last_one_that_is_not_told(self):
        silent = one_state(go((("box", "x"),), (("keep", "x"),)), end(), (), ("x",))
        self.parted(AT_ONCE, silent, 1)
        self.parted(LATER, silent, 1)
        twice = one_state(go((("box", "x"),), (("keep", "x"),)), end("yes", (("box", "x"), ("box", "x"))), (), ("x",))
        self.parted(twice, LATER, 1)

    def test_another_order(self):
        turned = one_state(go((), (("copy", "y", "x"), ("keep", "y"))), end("yes", (("box", "y"), ("box", "x"))), (), (
            "x", "y"))
        straight = one_state(turned[2][0][1], end("yes", (("box", "x"), ("box", "y"))), (), ("x", "y"))
        self.parted(turned, straight, 2)
        self.assertEqual(parting_in_sum(turned, straight), (0, 1))

    def test_another_thing_that_is_told(self):
        first = one_state(ask(("empty", "x"), go((("item",),), (("keep", "x"),)), go((("box", "x"),))), None, (), ("x",))
        self.parted(first, AT_ONCE, 2)
        self.parted(first, LATER, 2)
        self.assertEqual(parting_in_sum(first, MUCH_LATER), (0, 1))

    def test_a_string_is_not_the_like_of_a_word(self):
        words = one_state(ask(("word", "w"), go((("item",),)), go((("word", "w"),))), None, ("w",))
        self.parted(words, AT_ONCE, 1)
        self.assertEqual(parting_in_sum(words, AT_ONCE), (0,))

    def test_unlike_verdicts(self):
        self.parted(LATER, one_state(LATER[2][0][1], end("no", (("box", "x"),)), (), ("x",)), 0)
        self.parted(ring_machine(4, "w", ("w",)), ring_machine(4, "w", ("w",), (3,)), 3)
        counted = one_state(go((("item",),)), end("no"))
        self.assertEqual(parting_in_sum(counted, MUCH_LATER), ())

    def test_the_empty_list(self):
        self.assertEqual(parting_in_sum(BARE, one_state(go(), end("yes", (("word", "w"),)), ("w",))), ())

    def test_one_may_be_ahead_again_and_again(self):
        # Tells two items at once at each second item; the other one tells each at once.
        pairs = ((), ("x",), (
            ("one", go((), (("keep", "x"),), "two"), end()),
            ("two", go((("box", "x"), ("item",)), (("empty", "x"),), "one"), end("yes", (("box", "x"),)))))
        self.alike(pairs, AT_ONCE)
        self.alike(pairs, LATER)
        self.alike(pairs, MUCH_LATER)
        self.parted(pairs, one_state(go((("item",), ("item",)))), 1)

    def test_what_one_is_ahead_may_be_let_go_by_it(self):
        # The one tells the item and keeps nothing, the other one has to keep it.
        one = one_state(go((("item",), ("word", "w"))), None, ("w",))
        other = (("w",), ("x",), (
            ("first", go((), (("keep", "x"),), "on"), end()),
            ("on", go((("box", "x"), ("word", "w")), (("keep", "x"),), "on"), end("yes", (("box", "x"), ("word", "w"))))))
        self.alike(one, other)
        self.assertIs(are_alike(one, other), False)

    def test_alike_ones_are_alike_in_sum(self):
        self.alike(NEIGHBOUR, NEIGHBOUR_TOO)
        self.assertNotEqual(parting_of(AT_ONCE, LATER), None)

    def test_pairs_of_small_machines(self):
        lengths = {}
        for one, other in machine_pairs(3, 250):
            words = tuple(sorted({*one[0], *other[0]}))
            first = next((len(x) for x in plain_lists(words, 3)
                          if summed(behaviour_for(one, x)) != summed(behaviour_for(other, x))), None)
            way = parting_in_sum(one, other)
            if way is None:
                self.assertIs(first, None)
                self.alike(one, other)
            elif len(way) <= 4:
                self.parted(one, other, len(way))
            if are_alike(one, other):
                self.assertIs(way, None)
            lengths[None if way is None else len(way)] = True
        self.assertTrue({None, 0, 1, 2} <= set(lengths))

    def test_refusals(self):
        for call in (alike_in_sum, parting_in_sum):
            for thing in wrong_things():
                with self.assertRaises(BadMachine) as caught:
                    call(thing, ((), None, None))
                self.assertEqual(caught.exception.place, ())
                with self.assertRaises(BadMachine) as caught:
                    call(wide_machine(76, False), ((), thing, None))
                self.assertEqual(caught.exception.place, (1,))
            for pair in ((wide_machine(76, False), BARE), (BARE, wide_machine(76, False))):
                with self.assertRaises(TooMany) as caught:
                    call(*pair)
                self.assertEqual(caught.exception.most, 300)

    def test_too_many_joints(self):
        # They count unlike items, so that each of 75 rounds comes side by side with each of 73.
        one, other = wide_machine(75, False), wide_machine(73, False)
        for call in (alike_in_sum, parting_in_sum):
            with self.assertRaises(TooMany) as caught:
                call(one, self.turned(other))
            self.assertEqual(caught.exception.most, 20000)

    @staticmethod
    def turned(machine):
        """The MACHINE with "c" where it asks for "a", and "a" where it asks for "c"."""
        def tree(part):
            if part == ("word", "a"):
                return "word", "c"
            if part == ("word", "c"):
                return "word", "a"
            return tuple(tree(x) for x in part) if isinstance(part, tuple) else part

        return tree(machine)

    def test_nothing_is_changed_and_the_same_is_told(self):
        one, other = copy.deepcopy(LATER), copy.deepcopy(MUCH_LATER)
        for call in (alike_in_sum, parting_in_sum):
            self.assertEqual(call(one, other), call(one, other))
            self.assertEqual(call(one, BARE), call(one, BARE))
        self.assertEqual((one, other), (LATER, MUCH_LATER))


if __name__ == "__main__":
    unittest.main()
