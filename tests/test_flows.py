"""[6] FLOWS, [7] the FLOW of a MACHINE, alone and over WORDS, and the WAYS."""

import copy
import unittest

from onlyalike.errors import BadFlow, BadList, BadMachine, BadWords, TooMany
from onlyalike.flows import flow_of, flow_over, leaves_met, need_flow, patterns_of, place_behind, run_flow, ways_to
from onlyalike.machines import behaviour_for, pattern_behind
from onlyalike.things import is_plain_list
from made import (
    FIRST_TWO, NEIGHBOUR, NEIGHBOUR_FLOW, NEIGHBOUR_TOO, Agrees, ask, end, go, machine_pairs, one_state, plain_lists, ring,
    wide_machine, wrong_things,
)

STAY = ((), 0, ())
YES = ("yes", ())
# Keeps the last item, and the one ahead of it if it is another one, and tells them.
PAIR = ((), (
    (0, (((), 1, (None,)),), YES),
    (1, (((0,), 1, (0,)), ((0, None), 2, (0, None))), ("no", (0,))),
    (2, (((), 1, (0,)), ((1, 0), 2, (1, 0)), ((), 2, (1, None))), ("yes", (1, 0, 1))),
))


def with_place(place, at=1):
    """PAIR with another PLACE."""
    places = list(PAIR[1])
    places[at] = place
    return (), tuple(places)


def with_turn(turn, at):
    """PAIR with another TURN of its last PLACE."""
    many, turns, ending = PAIR[1][2]
    turns = list(turns)
    turns[at] = turn
    return with_place((many, tuple(turns), ending), 2)


class Forms(unittest.TestCase):
    def refused(self, thing, place):
        with self.assertRaises(BadFlow) as caught:
            need_flow(thing)
        self.assertEqual(caught.exception.place, place, thing)
        for call in (run_flow, place_behind):
            with self.assertRaises(BadFlow) as caught:
                call(thing, None)
            self.assertEqual(caught.exception.place, place)
        with self.assertRaises(BadFlow):
            ways_to(thing)

    def test_a_flow_is_told_itself(self):
        for flow in (PAIR, NEIGHBOUR_FLOW, ((), ((0, (STAY,), YES),)), ring(300, "a", ("a",))):
            self.assertIs(need_flow(flow), flow)

    def test_what_is_no_pair(self):
        for thing in [*wrong_things(), 1, "ab", (), PAIR[:1], (*PAIR, ()), list(PAIR)]:
            self.refused(thing, ())

    def test_what_are_no_words(self):
        nine = ("a", "b", "c", "d", "e", "f", "g", "h", "i")
        for words in [*wrong_things(), "a", ("b", "a"), ("a", "a"), ("A",), (1,), (Agrees(),), nine]:
            self.refused((words, None), (0,))
        need_flow((nine[:8], ((0, (STAY,) * 9, YES),)))

    def test_what_are_no_places(self):
        for places in [*wrong_things(), (), "a", list(PAIR[1]), ((0, (STAY,), YES),) * 301]:
            self.refused(((), places), (1,))
        need_flow(((), ((0, (STAY,), YES),) * 300))

    def test_what_has_no_many(self):
        good = (0, (STAY,), YES)
        for place in [*wrong_things(), 1, (), good[:2], (*good, 1), list(good), ("0", *good[1:]), (True, *good[1:]),
                      (None, *good[1:]), (-1, *good[1:]), (17, *good[1:]), (Agrees(), *good[1:])]:
            self.refused(((), (good, place)), (1, 1))
            self.refused(((), (good, good, place, None)), (1, 2))
            self.refused(((), (place,)), (1, 0))
        self.refused(((), ((1, (STAY, STAY), YES),)), (1, 0))
        self.refused(((), ((False, (STAY,), YES),)), (1, 0))
        kept = ((), 0, (0,))
        self.refused(((), ((1, (kept, kept), YES),)), (1, 0))

    def test_many_is_due_ahead_of_all_else(self):
        self.refused(((), ((0, None, None), (17, (), ()))), (1, 1))
        self.refused(((), ((0, None, None), (1, None, None))), (1, 0))
        self.refused(((), ((0, (STAY,), YES), (1, None, None), (2, None, None))), (1, 1))

    def test_how_great_many_is(self):
        def kept(many):
            stay = ((), 1, tuple(range(many)))
            return (), ((0, (STAY,), YES), (many, (stay,) * (many + 1), YES))

        need_flow(kept(16))
        self.refused(kept(17), (1, 1))

    def test_turns_are_as_many_as_kinds(self):
        for turns in [*wrong_things(), (), (STAY,), (STAY,) * 3, [STAY, STAY], "ab"]:
            self.refused(with_place((1, turns, YES)), (1, 1))
        self.refused((("a",), ((0, (STAY,), YES),)), (1, 0))
        self.refused((("a",), ((0, (STAY,) * 3, YES),)), (1, 0))

    def test_what_is_no_turn(self):
        for turn in [*wrong_things(), 1, (), ((), 0), ((), 0, (), ()), [(), 0, ()], "abc", ((), 3, ()), ((), -1, ()),
                     ((), True, (0,)), ((), "0", ()), ((), None, ()), ((), Agrees(), ()), ([], 0, ()), (None, 0, ()),
                     ("", 0, ()), ((), 0, []), ((), 0, None), ((), 0, "")]:
            for at in range(3):
                self.refused(with_turn(turn, at), (1, 2))

    def test_what_a_row_may_tell(self):
        for part in [0, 1]:
            for at in range(3):
                need_flow(with_turn(((part,), 0, ()), at))
        need_flow(with_turn(((None, None), 0, ()), 2))
        for part in [*wrong_things(), 2, -1, "a", "0", (0,), Agrees()]:
            for at in range(3):
                if part is not None or at < 2:
                    self.refused(with_turn(((0, part), 0, ()), at), (1, 2))
        need_flow((("a",), ((0, ((("a",), 0, ()), (("a", None), 0, ())), ("no", ("a",))),)))
        self.refused((("a",), ((0, ((("a",), 0, ()), (("b",), 0, ())), YES),)), (1, 0))
        self.refused((("a",), ((0, (((None,), 0, ()), STAY), YES),)), (1, 0))
        self.refused((("a",), ((0, (((0,), 0, ()), STAY), YES),)), (1, 0))

    def test_how_long_a_row_is(self):
        need_flow(with_turn(((0,) * 81, 0, ()), 1))
        self.refused(with_turn(((0,) * 82, 0, ()), 1), (1, 2))
        need_flow(with_place((0, (STAY,), YES), 0))
        need_flow((("a",), ((0, (STAY, STAY), ("yes", ("a",) * 81)),)))
        self.refused((("a",), ((0, (STAY, STAY), ("yes", ("a",) * 82)),)), (1, 0))

    def test_what_origins_are(self):
        for origins in [(0, 1), (1, 0)]:
            for at in range(3):
                need_flow(with_turn(((), 2, origins), at))
        need_flow(with_turn(((), 2, (None, 1)), 2))
        for origins in [(), (0,), (0, 1, 0), (0, 0), (0, 2), (0, -1), (0, "1"), (0, True), (False, 1), (0, Agrees()), (0, [])]:
            for at in range(3):
                self.refused(with_turn(((), 2, origins), at), (1, 2))
        self.refused(with_turn(((), 2, (0, None)), 0), (1, 2))
        self.refused(with_turn(((), 2, (0, None)), 1), (1, 2))
        self.refused(with_turn(((), 2, (None, None)), 2), (1, 2))

    def test_what_is_no_end(self):
        for ending in [*wrong_things(), 1, (), ("yes",), ("yes", (), ()), ["yes", ()], ("Yes", ()), (True, ()), (Agrees(), ()),
                       ("yes", []), ("yes", None), ("yes", (None,)), ("yes", (1,)), ("yes", (-1,)), ("yes", (False,)),
                       ("yes", ("a",)), ("no", ""), "yes"]:
            self.refused(with_place((1, PAIR[1][1][1], ending)), (1, 1))

    def test_the_first_place_that_is_none_is_told(self):
        self.refused(with_place((1, PAIR[1][1][1], None)), (1, 1))
        self.refused(((), (*with_place((1, PAIR[1][1][1], None))[1][:2], (0, None, None))), (1, 1))


class Runs(unittest.TestCase):
    def test_a_flow_goes_turn_by_turn(self):
        self.assertEqual(run_flow(PAIR, ()), ((), "yes", ()))
        self.assertEqual(run_flow(PAIR, ("x",)), (((),), "no", ("x",)))
        self.assertEqual(run_flow(PAIR, ("x", "x")), (((), ("x",)), "no", ("x",)))
        self.assertEqual(run_flow(PAIR, ("x", 1, 1)), (((), ("x", 1), (1, "x")), "yes", ("x", 1, "x")))
        self.assertEqual(run_flow(PAIR, (1, "1", 2, "1")),
                         (((), (1, "1"), (), ()), "no", ("1",)))

    def test_place_behind(self):
        for things, place in (((), 0), ((5,), 1), ((5, 5), 1), ((5, 6), 2), ((5, 6, 5), 1), ((5, 6, 6), 2), ((5, 6, 7), 2)):
            self.assertEqual(place_behind(PAIR, things), place)

    def test_a_thing_of_words_is_never_a_kept_number(self):
        flow = (("w",), (
            (0, (((), 0, ()), ((), 1, (None,))), YES),
            (1, ((("w", 0), 1, (0,)), ((0, 0), 1, (0,)), ((None,), 1, (0,))), ("yes", (0, "w")))))
        self.assertEqual(run_flow(flow, ("w", "x", "w", "x", "w")),
                         (((), (), ("w", "x"), ("x", "x"), ("w", "x")), "yes", ("x", "w")))
        self.assertEqual(run_flow(flow, (0, "w", 0, 1)), (((), ("w", 0), (0, 0), (1,)), "yes", (0, "w")))

    def test_a_bad_list_behind_a_bad_flow(self):
        for call in (run_flow, place_behind):
            for things in [*wrong_things(), (1,) * 1001, (True,), ("",), [1]]:
                with self.assertRaises(BadList) as caught:
                    call(PAIR, things)
                self.assertIs(caught.exception.given, things)

    def test_nothing_is_changed_and_the_same_is_told(self):
        flow, things = copy.deepcopy(PAIR), (1, "x", "1", 1)
        self.assertEqual(run_flow(flow, things), run_flow(flow, things))
        self.assertEqual(ways_to(flow), ways_to(flow))
        self.assertEqual((flow, things), (PAIR, (1, "x", "1", 1)))


class MachineFlows(unittest.TestCase):
    def test_the_flow_of_a_machine_alone(self):
        self.assertEqual(flow_of(NEIGHBOUR), NEIGHBOUR_FLOW)
        self.assertEqual(patterns_of(NEIGHBOUR), (("on", (None,)), ("on", ("same",)), ("on", (0,))))

    def test_places_are_numbered_as_first_met(self):
        self.assertEqual(flow_of(FIRST_TWO), ((), (
            (0, (((), 1, (None,)),), ("yes", ())),
            (1, (((0,), 1, (0,)), ((), 2, (0, None))), ("yes", (0,))),
            (2, (((0,), 2, (0, 1)), ((1,), 2, (0, 1)), ((), 2, (0, 1))), ("yes", (0, 1))))))
        self.assertEqual(patterns_of(FIRST_TWO), (("on", (None, None)), ("on", (0, None)), ("on", (0, 1))))
        self.assertEqual(ways_to(flow_of(FIRST_TWO)), ((), (0,), (0, 1)))

    def test_the_flow_over_more_words(self):
        stays = [((), 1, ()), ((), 2, ()), ((), 3, (None,))]
        flow = flow_over(NEIGHBOUR, ("other", "same"))
        self.assertEqual(flow, (("other", "same"), (
            (0, tuple(stays), YES),
            (0, ((("same",), 1, ()), stays[1], stays[2]), YES),
            (0, (stays[0], (("same",), 2, ()), stays[2]), YES),
            (1, (stays[0], stays[1], (("same",), 3, (0,)), stays[2]), YES))))
        self.assertEqual(flow_over(NEIGHBOUR, ("same",)), flow_of(NEIGHBOUR))

    def test_numbers_of_things_go_by_the_boxes(self):
        shift = one_state(go((("box", "b"), ("item",), ("box", "a")), (("keep", "b"), ("copy", "b", "a"))), end(
            "no", (("box", "b"), ("box", "a"))), (), ("a", "b"))
        self.assertEqual(patterns_of(shift), (("on", (None, None)), ("on", (None, 0)), ("on", (0, 0)), ("on", (0, 1))))
        self.assertEqual(flow_of(shift), ((), (
            (0, (((None,), 1, (None,)),), ("no", ())),
            (1, (((0, 0), 2, (0,)), ((0, None), 3, (0, None))), ("no", (0,))),
            (1, (((0, 0, 0), 2, (0,)), ((0, None, 0), 3, (0, None))), ("no", (0, 0))),
            (2, (((1, 0, 0), 3, (1, 0)), ((1, 1, 0), 2, (1,)), ((1, None, 0), 3, (1, None))), ("no", (1, 0))))))

    def test_words_that_lack_one_of_its_own(self):
        for words in ((), ("other",), ("sama",), ("a", "b")):
            with self.assertRaises(BadWords) as caught:
                flow_over(NEIGHBOUR, words)
            self.assertIs(caught.exception.given, words)

    def test_words_that_are_none(self):
        nine = ("a", "b", "c", "d", "e", "f", "g", "h", "same")
        for words in [*wrong_things(), "same", ["same"], ("same", "same"), ("same", "other"), ("same", 1), (Agrees(),), nine]:
            with self.assertRaises(BadWords) as caught:
                flow_over(NEIGHBOUR, words)
            self.assertIs(caught.exception.given, words)
            with self.assertRaises(BadMachine):
                flow_over(None, words)
        self.assertEqual(len(flow_over(NEIGHBOUR, nine[1:])[1]), 10)

    def test_a_bad_machine(self):
        for call in (flow_of, patterns_of, leaves_met):
            for thing in wrong_things():
                with self.assertRaises(BadMachine) as caught:
                    call(thing)
                self.assertEqual(caught.exception.place, ())
            with self.assertRaises(BadMachine) as caught:
                call(((), (), (("on", None, None),)))
            self.assertEqual(caught.exception.place, (2, 0, 1))

    def test_just_300_places_and_more(self):
        most = wide_machine(75, False)
        self.assertEqual(len(flow_of(most)[1]), 300)
        self.assertEqual(len(patterns_of(most)), 300)
        self.assertEqual(len(leaves_met(most)), 75)
        need_flow(flow_of(most))
        for machine in (wide_machine(75, True), wide_machine(76, False)):
            for call in (flow_of, patterns_of, leaves_met, lambda one: flow_over(one, ("a", "b", "c"))):
                with self.assertRaises(TooMany) as caught:
                    call(machine)
                self.assertEqual(caught.exception.most, 300)
            with self.assertRaises(BadWords):
                flow_over(machine, ("a",))
        with self.assertRaises(TooMany):
            flow_over(most, ("a", "b", "c", "d"))

    def test_machine_and_flow_tell_the_same(self):
        machines = [NEIGHBOUR, NEIGHBOUR_TOO, FIRST_TWO] + [one for one, _ in machine_pairs(5, 60)]
        for machine in machines:
            words = tuple(sorted({*machine[0], "b", "x"}))
            flow, over, patterns = flow_of(machine), flow_over(machine, words), patterns_of(machine)
            self.assertIs(need_flow(flow), flow)
            self.assertIs(need_flow(over), over)
            self.assertEqual(len(patterns), len(flow[1]))
            for things in plain_lists(words, 3):
                told = behaviour_for(machine, things)
                self.assertEqual(run_flow(flow, things), told)
                self.assertEqual(run_flow(over, things), told)
                self.assertEqual(patterns[place_behind(flow, things)], pattern_behind(machine, things))

    def test_nothing_is_changed_and_the_same_is_told(self):
        machine = copy.deepcopy(NEIGHBOUR_TOO)
        for call in (flow_of, patterns_of, leaves_met):
            self.assertEqual(call(machine), call(machine))
        self.assertEqual(machine, NEIGHBOUR_TOO)


class Ways(unittest.TestCase):
    def test_ways_of_a_machines_flow(self):
        self.assertEqual(ways_to(NEIGHBOUR_FLOW), ((), ("same",), (0,)))
        self.assertEqual(ways_to(PAIR), ((), (0,), (0, 1)))

    def test_places_in_another_order(self):
        # PAIR with its last two places exchanged.
        turned = ((), (
            (0, (((), 2, (None,)),), YES),
            (2, (((), 2, (0,)), ((1, 0), 1, (1, 0)), ((), 1, (1, None))), ("yes", (1, 0, 1))),
            (1, (((0,), 2, (0,)), ((0, None), 1, (0, None))), ("no", (0,)))))
        self.assertEqual(ways_to(turned), ((), (0, 1), (0,)))
        for things in plain_lists((), 4):
            self.assertEqual(run_flow(turned, things), run_flow(PAIR, things))

    def test_the_order_in_a_layer_is_that_of_meeting(self):
        # Place 3 is met ahead of place 1; both lead to place 2, and it is first met from place 3.
        flow = (("a", "b"), (
            (0, (((), 3, ()), ((), 1, ()), ((), 0, ())), YES),
            (0, (((), 2, ()), ((), 1, ()), ((), 1, ())), YES),
            (0, (((), 2, ()), ((), 2, ()), ((), 2, ())), YES),
            (0, (((), 3, ()), ((), 3, ()), ((), 2, ())), YES)))
        self.assertEqual(ways_to(flow), ((), ("b",), ("a", 0), ("a",)))

    def test_the_next_number_is_one_that_has_not_come(self):
        # The first item is let go at once, the second one is kept, and then it has to come again.
        flow = ((), (
            (0, (((), 1, ()),), YES),
            (0, (((), 2, (None,)),), YES),
            (1, (((), 3, (0,)), ((), 2, (0,))), YES),
            (1, (((), 3, (0,)), ((), 4, (None,))), YES),
            (1, (((), 4, (0,)), ((), 4, (0,))), YES)))
        self.assertEqual(ways_to(flow), ((), (0,), (0, 1), (0, 1, 1), (0, 1, 1, 2)))

    def test_a_place_to_which_none_leads(self):
        flow = (("a",), (
            (0, (((), 0, ()), ((), 2, (None,))), YES),
            (1, (((), 0, ()), ((), 1, (0,)), ((), 1, (0,))), YES),
            (1, (((), 0, ()), ((), 2, (0,)), ((), 2, (0,))), YES)))
        self.assertEqual(ways_to(flow), ((), None, (0,)))

    def test_ways_lead_to_their_places_and_none_is_too_long(self):
        for machine, _ in machine_pairs(8, 60):
            flow = flow_of(machine)
            ways = ways_to(flow)
            first = {}
            for things in plain_lists(flow[0], 3):
                first.setdefault(place_behind(flow, things), len(things))
            for number, way in enumerate(ways):
                self.assertTrue(is_plain_list(flow[0], way))
                self.assertEqual(place_behind(flow, way), number)
                self.assertEqual(len(way), first.get(number, len(way)))
            self.assertEqual([len(way) for way in ways], sorted(len(way) for way in ways))

    def test_a_long_way(self):
        ways = ways_to(ring(300, "a", ("a",)))
        self.assertEqual(ways[299], ("a",) * 299)


class Leaves(unittest.TestCase):
    def test_leaves_of_a_yes_stand_ahead_of_those_of_its_no(self):
        self.assertEqual(leaves_met(NEIGHBOUR), (((0, 1), (0,)),))
        self.assertEqual(leaves_met(NEIGHBOUR_TOO), (((0,), (0,)), ((1, 2), (0,))))
        self.assertEqual(leaves_met(FIRST_TWO), (((0, 1, 2, 3, 4), (0,)),))

    def test_a_state_to_which_none_leads(self):
        machine = ((), ("x",), (
            ("on", ask(("empty", "x"), go((), (("keep", "x"),)), ask(("like", "x", "x"), go(), go((), (), "off"))),
             ask(("empty", "x"), end(), ask(("like", "x", "x"), end("no"), end()))),
            ("off", go(), end())))
        self.assertEqual(leaves_met(machine), (((0, 1), (0, 1)), ((), ())))

    def test_words_lead_to_leaves(self):
        machine = (("w",), ("x",), (
            ("on", ask(("word", "w"), ask(("item", "x"), go(), go((), (("keep", "x"),), "two")), go()),
             ask(("holds", "x", "w"), end(), end())),
            ("two", ask(("holds", "x", "w"), go((), (), "two"), go()), ask(("holds", "x", "w"), end(), end()))))
        self.assertEqual(leaves_met(machine), (((1, 2), (1,)), ((0,), (0,))))

    def test_deeper_trees_are_numbered_from_the_left(self):
        left = ask(("word", "a"), ask(("word", "b"), go(), go()), ask(("word", "b"), go(), go()))
        machine = one_state(ask(("empty", "x"), left, go()), None, ("a", "b"), ("x",))
        self.assertEqual(leaves_met(machine), (((1, 2, 3), (0,)),))
        three = ask(("word", "a"), ask(("word", "b"), go(), go()), go())
        for yes, first in ((three, 3), (ask(("word", "a"), go(), three), 4), (ask(("word", "a"), three, go()), 4), (go(), 1)):
            machine = one_state(ask(("like", "x", "x"), yes, ask(("empty", "x"), go(), go())), None, ("a", "b"), ("x",))
            self.assertEqual(leaves_met(machine), (((first,), (0,)),))


if __name__ == "__main__":
    unittest.main()
