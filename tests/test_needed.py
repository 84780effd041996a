"""[16] what is NEEDED: at a PLACE, behind a list, and how much of it a MACHINE needs."""

import copy
import random
import unittest

from onlyalike.equal import is_equal
from onlyalike.errors import BadFlow, BadList, BadMachine, BadPlace, TooMany
from onlyalike.flows import flow_of, place_behind
from onlyalike.machines import behaviour_for
from onlyalike.needed import need_of, needed_at, needed_behind
from made import (
    FIRST_TWO, NEIGHBOUR, NEIGHBOUR_TOO, YES, ask, asks, end, go, going_ons, machine_pairs, one_state, plain_lists, shuffled,
    slow_rings, small_flow, told_from, wide_machine, wrong_things,
)

# The document's example: tells whether an item is like the one ahead, and keeps the first item, too.
WITH_FIRST = one_state(
    ask(("empty", "first"), go((), (("keep", "first"), ("keep", "last"))),
        ask(("item", "last"), go((("word", "same"),)), go((), (("keep", "last"),)))), None, ("same",), ("first", "last"))
# Asks of the second item alone whether it is like the first one, and keeps that for ever.
SECOND = ((), ("x",), (
    ("one", go((), (("keep", "x"),), "two"), end()),
    ("two", ask(("item", "x"), go((("item",),), (), "rest"), go((), (), "rest")), end()),
    ("rest", go((), (), "rest"), end())))
# Keeps two things, and asks in the end only whether they are like.
BOTH_LIKE = one_state(
    ask(("empty", "x"), go((), (("keep", "x"),)), go((), (("keep", "y"),))),
    ask(("like", "x", "y"), end("yes"), end("no")), (), ("x", "y"))
# Tells what is kept at the WORD "tell", lets it go at "drop", and keeps what comes then.
KEEPER = one_state(
    ask(("word", "drop"), go((), (("empty", "x"), ("empty", "y"))),
        ask(("word", "tell"), go((("box", "x"), ("box", "y"))),
            ask(("empty", "x"), go((), (("keep", "x"),)),
                ask(("item", "x"), go(), go((), (("keep", "y"),)))))), None, ("drop", "tell"), ("x", "y"))
# Place 2 keeps three things; the last one is told at once, the second one behind the next item, the first one never;
# at the places 1 and 3 it is asked whether what is kept comes again.
THREE = ((), (
    (0, (((), 1, (None,)),), YES),
    (1, (((), 1, (0,)), ((), 3, (0, None))), YES),
    (3, (((2,), 4, (1,)), ((2,), 4, (1,)), ((2,), 4, (1,)), ((2,), 4, (1,))), YES),
    (2, (((), 3, (0, 1)), ((), 3, (0, 1)), ((), 2, (0, 1, None))), YES),
    (1, (((), 5, ()), ((), 5, ())), ("yes", (0,))),
    (0, (((), 5, ()),), YES)))


def names_needed(flow, place, most):
    """The THINGS of a PLACE without which something is told otherwise of some tuple of at most so many items."""
    many = flow[1][place][0]
    out = []
    for thing in range(many):
        swapped = [many if at == thing else at for at in range(many)]
        told = [told_from(flow, place, list(range(many)), items) != told_from(flow, place, swapped, items)
                for items in going_ons(flow[0], many + 1, most)]
        out += [thing] if any(told) else []
    return tuple(out)


class Needed(unittest.TestCase):
    def test_the_example_of_the_document(self):
        self.assertEqual(need_of(NEIGHBOUR), 1)
        self.assertEqual(need_of(WITH_FIRST), 1)
        self.assertEqual(need_of(NEIGHBOUR_TOO), 1)
        self.assertEqual(needed_behind(WITH_FIRST, (5, 6, 7, 7, 8)), (8,))
        self.assertEqual(needed_behind(NEIGHBOUR, (5, 6, 7, 7, 8)), (8,))

    def test_a_thing_that_is_kept_and_never_asked_for_again(self):
        flow = flow_of(SECOND)
        self.assertEqual(needed_at(flow, place_behind(flow, (1,))), (0,))
        self.assertEqual(flow[1][place_behind(flow, (1, 2))][0], 1)
        self.assertEqual(needed_at(flow, place_behind(flow, (1, 2))), ())
        self.assertEqual(needed_behind(SECOND, (1,)), (1,))
        self.assertEqual(needed_behind(SECOND, (1, 2)), ())
        self.assertEqual(needed_behind(SECOND, (1, 1)), ())
        self.assertEqual(need_of(SECOND), 1)

    def test_what_is_only_compared_with_what_comes(self):
        # Behind the first item the next ones may be like it; behind unlike ones the second one may come to be another.
        self.assertEqual(needed_behind(BOTH_LIKE, ("x",)), ("x",))
        self.assertEqual(needed_behind(BOTH_LIKE, ("x", "y")), ("x",))
        self.assertEqual(needed_behind(BOTH_LIKE, ("x", "x")), ("x",))
        self.assertEqual(need_of(BOTH_LIKE), 1)

    def test_places_of_a_flow_by_hand(self):
        for p, wanted in enumerate(((), (0,), (1, 2), (0, 1), (0,), ())):
            self.assertEqual(needed_at(THREE, p), wanted)
        for told in ((), (0,), (1, 3), (0, 1, 2, 3)):
            self.assertEqual(needed_at(asks(4, told), 4), told)
        # A place to which none leads has what is NEEDED, too.
        flow = ((), ((0, (((), 0, ()),), YES), (2, (((1,), 0, ()), ((), 0, ()), ((), 0, ())), YES)))
        self.assertEqual(needed_at(flow, 1), (0, 1))
        self.assertEqual(needed_at(flow, 0), ())

    def test_none_is_needed_by_what_tells_nothing(self):
        machine = one_state(go((), (("keep", "x"), ("copy", "x", "y"))), end(), (), ("x", "y"))
        flow = flow_of(machine)
        self.assertEqual([needed_at(flow, p) for p in range(len(flow[1]))], [()] * len(flow[1]))
        self.assertEqual(need_of(machine), 0)
        self.assertEqual(need_of(one_state(go((("item",),)))), 0)

    def test_a_need_beyond_five(self):
        sixteen = asks(16, range(1, 16))
        self.assertEqual(needed_at(sixteen, 16), tuple(range(1, 16)))
        boxes = tuple("abcdefgh")
        tree = go()
        for box in reversed(boxes):
            tree = ask(("empty", box), go((), (("keep", box),)), ask(("item", box), go((("item",),)), tree))
        self.assertEqual(need_of(one_state(tree, None, (), boxes)), 8)

    def test_needed_at_is_what_the_document_says(self):
        flows = [small_flow(random.Random(at), 5, 3) for at in range(150)] + [flow_of(one) for one, _ in machine_pairs(21, 60)]
        some = {}
        for flow in flows:
            for p, place in enumerate(flow[1]):
                things = range(place[0])
                needed = needed_at(flow, p)
                some[len(needed), place[0]] = True
                self.assertEqual(needed, tuple(
                    at for at in things if not is_equal(flow, p, p, tuple((x, x) for x in things if x != at))))
        self.assertTrue({(0, 1), (1, 1), (1, 2), (0, 2), (2, 2), (0, 3), (2, 3)} <= set(some), some)

    def test_needed_at_is_what_lists_tell(self):
        for at in range(150):
            flow = small_flow(random.Random(at), 3, 2)
            for p in range(len(flow[1])):
                self.assertEqual(needed_at(flow, p), names_needed(flow, p, 4))

    def test_all_that_is_not_needed_can_be_swapped_at_once(self):
        for at in range(80):
            chance = random.Random(at)
            flow = shuffled(chance, small_flow(chance), 2)
            for p, place in enumerate(flow[1]):
                many = place[0]
                needed = needed_at(flow, p)
                swapped = [x if x in needed else many + x for x in range(many)]
                for items in going_ons(flow[0], many * 2, 2):
                    self.assertEqual(told_from(flow, p, list(range(many)), items), told_from(flow, p, swapped, items))

    def test_lists_with_what_is_not_needed_swapped(self):
        for machine in [WITH_FIRST, SECOND, BOTH_LIKE, KEEPER] + [one for one, _ in machine_pairs(22, 12)]:
            words = machine[0]
            for things in plain_lists(words, 3):
                needed = needed_behind(machine, things)
                self.assertFalse(set(needed) & set(words))
                other = tuple(x if x in needed or x in words else f"other {x}" for x in things)
                for more in plain_lists(words, 2):
                    # What is swapped does not come again, by its old name.
                    behind = tuple(x if x in needed or x in words or x not in things else f"new {x}" for x in more)
                    one = behaviour_for(machine, things + behind)
                    two = behaviour_for(machine, other + behind)
                    self.assertEqual(one[0][len(things):], two[0][len(things):])
                    self.assertEqual(one[1:], two[1:])

    def test_each_needed_thing_is_missed(self):
        for machine in [WITH_FIRST, SECOND, BOTH_LIKE, KEEPER]:
            for things in plain_lists(machine[0], 3):
                for thing in needed_behind(machine, things):
                    other = tuple("other" if x == thing else x for x in things)
                    behinds = [things + more for more in plain_lists((*machine[0], *range(3)), 2)]
                    told = [behaviour_for(machine, all_of) for all_of in behinds]
                    told_too = [behaviour_for(machine, other + all_of[len(things):]) for all_of in behinds]
                    self.assertTrue(any((one[0][len(things):], one[1:]) != (two[0][len(things):], two[1:])
                                        for one, two in zip(told, told_too)))

    def test_needed_behind_in_the_order_of_first_coming(self):
        self.assertEqual(needed_behind(FIRST_TWO, ("x", "x", 4, 5, "z")), ("x", 4))
        self.assertEqual(needed_behind(FIRST_TWO, (4, "x", "x", 5)), (4, "x"))
        self.assertEqual(needed_behind(FIRST_TWO, ("1", 1, 1, "1")), ("1", 1))
        self.assertEqual(needed_behind(FIRST_TWO, ()), ())
        # The box "x" holds what came later than what "y" holds.
        later = one_state(ask(("empty", "y"), go((), (("keep", "y"),)), go((), (("keep", "x"),))),
                          end("yes", (("box", "x"), ("box", "y"))), (), ("x", "y"))
        self.assertEqual(needed_behind(later, ("one", "two")), ("one", "two"))
        self.assertEqual(needed_behind(later, ("one", "two", "one")), ("one",))
        self.assertEqual(needed_behind(later, ("one", "two", "two")), ("one", "two"))
        self.assertEqual(needed_behind(later, (-5, 10 ** 40)), (-5, 10 ** 40))

    def test_needed_behind_with_words(self):
        self.assertEqual(needed_behind(KEEPER, (3, "tell", "b")), (3, "b"))
        self.assertEqual(needed_behind(KEEPER, (3, "b", "drop")), ())
        # What was let go and came again stands where it came first.
        self.assertEqual(needed_behind(KEEPER, (3, "b", "drop", "b", 3)), (3, "b"))
        self.assertEqual(needed_behind(KEEPER, ("b", 3, 4, "b")), ("b", 4))
        self.assertEqual(needed_behind(KEEPER, (7, 7, 7)), (7,))
        holds_word = one_state(go((("box", "x"),), (("keep", "x"),)), None, ("w",), ("x",))
        self.assertEqual(needed_behind(holds_word, ("v",)), ("v",))
        self.assertEqual(needed_behind(holds_word, ("v", "w")), ())

    def test_alike_machines_with_other_names_need_the_same(self):
        other = (("drop", "tell"), ("p", "q", "spare"), (
            ("none", ask(("word", "drop"), go((), (), "none"), ask(("word", "tell"), go((), (), "none"), go(
                (), (("keep", "q"), ("keep", "spare")), "one"))), end()),
            ("one", ask(("word", "drop"), go((), (("empty", "q"),), "none"), ask(
                ("word", "tell"), go((("box", "q"),), (), "one"), ask(("item", "q"), go((), (), "one"), go(
                    (), (("keep", "p"),), "two")))), end()),
            ("two", ask(("word", "drop"), go((), (("empty", "q"), ("empty", "p")), "none"), ask(
                ("word", "tell"), go((("box", "q"), ("box", "p")), (), "two"), ask(
                    ("item", "q"), go((), (), "two"), go((), (("keep", "p"),), "two")))), end())))
        for one, two in ((KEEPER, other), (NEIGHBOUR, NEIGHBOUR_TOO), (NEIGHBOUR, WITH_FIRST)):
            self.assertEqual(need_of(one), need_of(two))
            for things in plain_lists((*one[0], "b"), 4):
                self.assertEqual(needed_behind(one, things), needed_behind(two, things))

    def test_nothing_is_changed_and_the_same_is_told(self):
        flow = copy.deepcopy(THREE)
        for p in range(6):
            self.assertEqual(needed_at(flow, p), needed_at(flow, p))
        self.assertEqual(flow, THREE)


class Refusals(unittest.TestCase):
    def test_what_is_no_flow_and_what_is_no_place(self):
        for thing in [*wrong_things(), 1, "a", ()]:
            with self.assertRaises(BadFlow) as caught:
                needed_at(thing, None)
            self.assertEqual(caught.exception.place, ())
        for thing in [*wrong_things(), -1, 6, "0", (0,)]:
            with self.assertRaises(BadPlace) as caught:
                needed_at(THREE, thing)
            self.assertIs(caught.exception.given, thing)

    def test_what_is_no_machine_and_what_is_no_list(self):
        for thing in [*wrong_things(), 1, "a", ()]:
            for call in (need_of, lambda one: needed_behind(one, None)):
                with self.assertRaises(BadMachine) as caught:
                    call(thing)
                self.assertEqual(caught.exception.place, ())
        for thing in [*wrong_things(), 1, "a", [1], (True,), ("",), (1,) * 1001]:
            for machine in (SECOND, wide_machine(76, False)):
                with self.assertRaises(BadList) as caught:
                    needed_behind(machine, thing)
                self.assertIs(caught.exception.given, thing)

    def test_too_many_places(self):
        self.assertEqual(need_of(wide_machine(75, False)), 0)
        for call in (need_of, lambda one: needed_behind(one, ())):
            with self.assertRaises(TooMany) as caught:
                call(wide_machine(76, False))
            self.assertEqual(caught.exception.most, 300)

    def test_too_many_joints(self):
        slow = slow_rings()
        flow = flow_of(slow)
        for call in (lambda: need_of(slow), lambda: needed_behind(slow, (1,)),
                     lambda: needed_at(flow, place_behind(flow, (1,)))):
            with self.assertRaises(TooMany) as caught:
                call()
            self.assertEqual(caught.exception.most, 20000)
        self.assertEqual(needed_behind(slow, (1, 2)), ())


if __name__ == "__main__":
    unittest.main()
