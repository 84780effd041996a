"""[32] BOTH, EITHER, WITHOUT, TURNED, and lists with a VERDICT or with unlike ones."""

import copy
import itertools
import random
import unittest

from onlyalike.conditions import compile_condition
from onlyalike.errors import BadFlow, BadVerdict, BadWords, TooMany
from onlyalike.flows import flow_of, need_flow, run_flow
from onlyalike.things import is_plain_list
from onlyalike.verdicts import (
    first_with, flow_both, flow_either, flow_turned, flow_without, same_verdicts, unlike_verdicts,
)
from made import (
    FIRST_TWO, YES, Agrees, end, first_ones, go, one_behind, one_state, plain_lists, ring, small_flow, wrong_things,
)

NOW = ("now",)
SOME_A = compile_condition(("some", ("is", NOW, "a")))
END_B = compile_condition(("end", ("is", NOW, "b")))
REPEATS = compile_condition(("some", ("like", NOW, ("back", 1))))
LIKE_FIRST = compile_condition(("end", ("like", NOW, ("first",))))
ALWAYS = ((), ((0, (((None,), 0, ()),), ("yes", ())),))
NEVER = (("a", "c"), ((0, (((), 0, ()),) * 3, ("no", ("c",))),))
SOME_FLOWS = (SOME_A, END_B, REPEATS, LIKE_FIRST, ALWAYS, NEVER, flow_of(FIRST_TWO), ring(3, "a", ("a", "b"), (1,)))
PAIRS = ((flow_both, lambda one, other: one and other), (flow_either, lambda one, other: one or other),
         (flow_without, lambda one, other: one and not other))


def says(flow, things):
    return run_flow(flow, things)[1] == "yes"


def words_of(*flows):
    return tuple(sorted({word for flow in flows for word in flow[0]}))


class Verdicts(unittest.TestCase):
    def check(self, one, other, most):
        words = words_of(one, other)
        lists = plain_lists(words, most)
        for call, wanted in PAIRS:
            flow = need_flow(call(one, other))
            self.assertEqual(flow[0], words)
            for things in lists:
                verdict = "yes" if wanted(says(one, things), says(other, things)) else "no"
                self.assertEqual(run_flow(flow, things), (((),) * len(things), verdict, ()), (one, other, things))

    def test_by_hand(self):
        both = flow_both(SOME_A, REPEATS)
        self.assertEqual(both[0], ("a",))
        for things, wanted in (((), (False, False, False)), (("a",), (False, True, True)), ((1, 1), (False, True, False)),
                               (("a", "a"), (True, True, False)), (("a", 1, 2, 2), (True, True, False))):
            told = tuple(says(call(SOME_A, REPEATS), things) for call, _ in PAIRS)
            self.assertEqual(told, wanted)

    def test_all_pairs(self):
        for one, other in itertools.product(SOME_FLOWS, repeat=2):
            self.check(one, other, 3)

    def test_words_of_one_alone_are_things_of_the_other(self):
        # REPEATS has no WORDS: an "a" behind an "a" is like it as any other thing is.
        for call, _ in PAIRS:
            flow = call(SOME_A, REPEATS)
            self.assertEqual(says(flow, ("a", "a")), call is not flow_without)
        self.assertIs(says(flow_both(END_B, LIKE_FIRST), ("b", "a", "b")), True)
        self.assertIs(says(flow_both(END_B, LIKE_FIRST), ("a", "b")), False)
        self.check(END_B, LIKE_FIRST, 4)

    def test_small_flows(self):
        for seed in range(80):
            chance = random.Random(seed)
            self.check(small_flow(chance, 4, 2), small_flow(chance, 4, 2), 3)

    def test_turned(self):
        for flow in SOME_FLOWS + tuple(small_flow(random.Random(seed)) for seed in range(60)):
            other = need_flow(flow_turned(flow))
            self.assertEqual(other[0], flow[0])
            for things in plain_lists(flow[0], 3):
                verdict = "no" if says(flow, things) else "yes"
                self.assertEqual(run_flow(other, things), (((),) * len(things), verdict, ()))
            self.assertIs(same_verdicts(flow_turned(other), flow), True)
        self.assertEqual(len(flow_turned(ring(300, "a", ("a",)))[1]), 300)

    def test_as_and_or_not(self):
        one, other = SOME_A, LIKE_FIRST
        self.assertIs(same_verdicts(flow_without(one, other), flow_both(one, flow_turned(other))), True)
        self.assertIs(same_verdicts(flow_either(one, other), flow_turned(flow_both(flow_turned(one), flow_turned(other)))), True)
        self.assertIs(same_verdicts(flow_both(one, other), flow_both(other, one)), True)
        self.assertIs(same_verdicts(flow_without(one, other), flow_without(other, one)), False)

    def test_many_words(self):
        def over(words):
            return ring(2, words[0], tuple(words))

        for one, other, is_fine in (("abcd", "efgh", True), ("abcdefgh", "abcdefgh", True), ("abcdefgh", "h", True), ("abcd", "efghi", False),
                                    ("abcdefgh", "i", False), ("bcdefghi", "a", False)):
            for call in (flow_both, flow_either, flow_without, same_verdicts, unlike_verdicts):
                for first, second in ((one, other), (other, one)):
                    if is_fine:
                        call(over(first), over(second))
                        continue
                    with self.assertRaises(BadWords) as caught:
                        call(over(first), over(second))
                    self.assertEqual(caught.exception.given, tuple("abcdefghi"))

    def test_too_many_places(self):
        def two(many):
            return ring(20, "a", ("a",), tuple(range(1, 20))), ring(many, "b", ("b",), tuple(range(1, many)))

        self.check(*two(15), 2)
        for call, _ in PAIRS:
            self.assertEqual(len(call(*two(15))[1]), 300)
            with self.assertRaises(TooMany) as caught:
                call(*two(16))
            self.assertEqual(caught.exception.most, 300)
        # Of these one never says "yes", so there are few enough.
        self.assertEqual(len(flow_both(ring(300, "a", ("a",), (5,)), ring(299, "b", ("b",), tuple(range(299))))[1]), 1)

    def test_too_many_things(self):
        flow = need_flow(flow_either(first_ones(15), one_behind(16)))
        self.assertEqual(max(place[0] for place in flow[1]), 16)
        things = tuple(range(17))
        for last, wanted in ((0, True), (14, True), (15, False), (16, True), (17, False)):
            self.assertIs(says(flow, (*things, last)), wanted)
        with self.assertRaises(TooMany) as caught:
            flow_either(first_ones(16), one_behind(16))
        self.assertEqual(caught.exception.most, 16)

    def test_what_is_kept_for_rows_alone(self):
        # It keeps the first sixteen unlike items, and tells what comes again, but says "yes" of all lists.
        places = []
        for kept in range(17):
            same = tuple(range(kept))
            again = tuple(((at,), kept, same) for at in same)
            places.append((kept, (*again, ((), kept + 1, (*same, None)) if kept < 16 else ((), kept, same)), YES))
        flow = need_flow(((), tuple(places)))
        self.assertEqual(len(flow_both(flow, flow)[1]), 1)
        self.assertIs(same_verdicts(flow, ALWAYS), True)

    def test_nothing_is_changed_and_the_same_is_told(self):
        one, other = copy.deepcopy(SOME_A), copy.deepcopy(LIKE_FIRST)
        for call, _ in PAIRS:
            self.assertEqual(call(one, other), call(SOME_A, LIKE_FIRST))
        self.assertEqual(unlike_verdicts(one, other), unlike_verdicts(SOME_A, LIKE_FIRST))
        self.assertEqual(flow_turned(one), flow_turned(SOME_A))
        self.assertEqual((one, other), (SOME_A, LIKE_FIRST))


class Lists(unittest.TestCase):
    def test_first_with(self):
        for flow, yes, no in ((SOME_A, ("a",), ()), (END_B, ("b",), ()), (REPEATS, (0, 0), ()), (ALWAYS, (), None), (NEVER, None, ()),
                              (flow_of(one_state(go(), end("no"))), None, ())):
            for verdict, wanted in (("yes", yes), ("no", no)):
                told = first_with(flow, verdict)
                self.assertEqual(told and len(told), wanted and len(wanted))
                if wanted is not None:
                    self.assertEqual(run_flow(flow, told)[1], verdict)
        self.assertIn(first_with(REPEATS, "yes"), ((0, 0),))
        self.assertEqual(first_with(ring(300, "a", ("a",), tuple(range(299))), "yes"), ("a",) * 299)

    def test_first_with_is_as_short_as_any(self):
        for seed in range(150):
            flow = small_flow(random.Random(seed), 5, 2)
            for verdict in ("yes", "no"):
                told = first_with(flow, verdict)
                lists = [things for things in plain_lists(flow[0], 4) if run_flow(flow, things)[1] == verdict]
                if told is None:
                    self.assertEqual(lists, [])
                else:
                    self.assertTrue(is_plain_list(flow[0], told))
                    self.assertEqual(run_flow(flow, told)[1], verdict)
                    self.assertEqual(len(told), len(lists[0]) if lists else max(len(told), 5))

    def test_a_place_that_is_not_met_counts_not(self):
        flow = ((), ((0, (((), 0, ()),), YES), (0, (((), 0, ()),), ("no", ()))))
        self.assertIs(first_with(flow, "no"), None)
        self.assertEqual(first_with(flow, "yes"), ())

    def check(self, one, other, most):
        words = words_of(one, other)
        told = unlike_verdicts(one, other)
        self.assertIs(same_verdicts(one, other), told is None)
        unlike = [things for things in plain_lists(words, most) if says(one, things) != says(other, things)]
        if told is None:
            self.assertEqual(unlike, [])
        else:
            self.assertTrue(is_plain_list(words, told))
            self.assertNotEqual(says(one, told), says(other, told))
            self.assertEqual(len(told), len(unlike[0]) if unlike else max(len(told), most + 1))
        return told

    def test_unlike_verdicts(self):
        self.assertIn(self.check(SOME_A, END_B, 3), (("a",), ("b",)))
        self.assertEqual(len(self.check(REPEATS, LIKE_FIRST, 4)), 1)
        self.assertEqual(self.check(ALWAYS, NEVER, 2), ())
        self.assertIs(self.check(ALWAYS, flow_of(FIRST_TWO), 4), None)
        for one, other in itertools.product(SOME_FLOWS, repeat=2):
            self.check(one, other, 3)
            if one is other:
                self.assertIs(same_verdicts(one, other), True)

    def test_small_flows(self):
        found = {}
        for seed in range(150):
            chance = random.Random(seed)
            told = self.check(small_flow(chance, 4, 2), small_flow(chance, 4, 2), 3)
            found[None if told is None else len(told)] = True
        self.assertTrue({None, 0, 1, 2} <= set(found))

    def test_rows_do_not_matter(self):
        flow = ((), ((0, (((None,), 1, (None,)),), YES), (1, (((0,), 1, (0,)), ((0, None), 1, (None,))), ("yes", (0,)))))
        self.assertIs(same_verdicts(flow, ALWAYS), True)
        self.assertIs(unlike_verdicts(flow, ALWAYS), None)

    def test_long_partings(self):
        one, other = ring(300, "a", ("a",), (299,)), ring(299, "a", ("a",), (298,))
        self.assertEqual(unlike_verdicts(one, other), ("a",) * 298)
        self.assertEqual(unlike_verdicts(ring(40, "a", ("a",), (0,)), ring(41, "a", ("a", "b"), (0,))), ("a",) * 40)
        self.assertEqual(len(unlike_verdicts(ring(60, "a", ("a",), (59,)), ring(60, "b", ("b",), (59,)))), 59)

    def test_big_ones_that_are_the_same(self):
        words = ("a", "b")
        self.assertIs(same_verdicts(ring(140, "a", words), ring(150, "b", words)), True)
        self.assertIs(same_verdicts(ring(300, "a", ("a",), (7,)), ring(300, "a", ("a",), (7,))), True)


class Refusals(unittest.TestCase):
    def test_flows_come_first_in_their_order(self):
        nine = (ring(2, "a", ("a", "b", "c", "d", "e")), ring(2, "f", ("f", "g", "h", "i")))
        for call in (flow_both, flow_either, flow_without, same_verdicts, unlike_verdicts):
            for thing in [*wrong_things(), 1, "a", ()]:
                for one, other, place in ((thing, ((), None), ()), (((), None), thing, (1,)), (thing, ALWAYS, ()), (nine[0], thing, ())):
                    with self.assertRaises(BadFlow) as caught:
                        call(one, other)
                    self.assertEqual(caught.exception.place, place)
            with self.assertRaises(BadFlow) as caught:
                call(ALWAYS, ((), ((0, None, None), (1, None, None))))
            self.assertEqual(caught.exception.place, (1, 0))
            with self.assertRaises(BadWords):
                call(*nine)
        for thing in [*wrong_things(), 1, "a", ()]:
            for call in (flow_turned, lambda x: first_with(x, None), lambda x: first_with(x, "yes")):
                with self.assertRaises(BadFlow) as caught:
                    call(thing)
                self.assertEqual(caught.exception.place, ())

    def test_what_is_no_verdict(self):
        for thing in [*wrong_things(), 1, "", "Yes", "yes ", ("yes",), (), 0, Agrees()]:
            with self.assertRaises(BadVerdict) as caught:
                first_with(ALWAYS, thing)
            self.assertIs(caught.exception.given, thing)


if __name__ == "__main__":
    unittest.main()
