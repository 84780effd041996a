"""[9] ALIKE and PARTINGs, [10] JOINTS, [11] PAPERS."""

import copy
import unittest

from onlyalike.alike import alike_paper, are_alike, check_alike, flows_alike, flows_parting, parting_of
from onlyalike.errors import BadFlow, BadMachine, BadPaper, BadQuestion, TooMany
from onlyalike.flows import flow_of, flow_over, run_flow
from onlyalike.machines import behaviour_for
from onlyalike.things import is_plain_list
from made import (
    FIRST_TWO, NEIGHBOUR, NEIGHBOUR_FLOW, NEIGHBOUR_TOO, Agrees, ask, end, go, machine_pairs, one_state, plain_lists, ring,
    ring_machine, wide_machine, wrong_things,
)

BARE = one_state(go())
# FIRST_TWO with its boxes exchanged and its questions in another order.
FIRST_TWO_TOO = one_state(
    ask(("item", "b"), go((("item",),)),
        ask(("item", "a"), go((("box", "a"),)),
            ask(("empty", "b"), go((), (("keep", "b"),)),
                ask(("empty", "a"), go((), (("keep", "a"),)), go())))),
    end("yes", (("box", "b"), ("box", "a"))), (), ("a", "b", "c"))


def keeps_first(again):
    """Keeps the first item until it comes again; behind that tells something of it, or not."""
    return ((), ("x",), (
        ("zero", go((), (("keep", "x"),), "one"), end()),
        ("one", ask(("item", "x"), go((), (("empty", "x"),) if not again else (), "two"), go((), (), "one")), end()),
        ("two", ask(("item", "x"), go((("item",),), (), "two"), go((), (), "two")), end())))


def both_words(one, other):
    return tuple(sorted({*one[0], *other[0]}))


class Partings(unittest.TestCase):
    def parted(self, one, other, many):
        """The PARTING, having so many items, is one, and no shorter list is."""
        words = both_words(one, other)
        for first, second in ((one, other), (other, one)):
            way = parting_of(first, second)
            self.assertIs(are_alike(first, second), False)
            self.assertEqual(len(way), many)
            self.assertTrue(is_plain_list(words, way))
            self.assertNotEqual(behaviour_for(one, way), behaviour_for(other, way))
            for things in plain_lists(words, many - 1) if many else ():
                self.assertEqual(behaviour_for(one, things), behaviour_for(other, things))
            flows = flow_over(first, words), flow_over(second, words)
            self.assertIs(flows_alike(*flows), False)
            other_way = flows_parting(*flows)
            self.assertEqual(len(other_way), many)
            self.assertNotEqual(run_flow(flows[0], other_way), run_flow(flows[1], other_way))

    def alike(self, one, other):
        for first, second in ((one, other), (other, one)):
            self.assertIs(parting_of(first, second), None)
            self.assertIs(are_alike(first, second), True)
        words = both_words(one, other)
        self.assertIs(flows_parting(flow_over(one, words), flow_over(other, words)), None)
        self.assertIs(flows_alike(flow_over(other, words), flow_over(one, words)), True)

    def test_alike_in_other_words(self):
        self.alike(NEIGHBOUR, NEIGHBOUR_TOO)
        self.alike(FIRST_TWO, FIRST_TWO_TOO)
        self.alike(FIRST_TWO, FIRST_TWO)
        self.alike(BARE, one_state(go((), (("keep", "x"),)), None, ("w",), ("x",)))

    def test_parted_by_a_row(self):
        self.parted(BARE, one_state(go((("item",),))), 1)
        self.parted(NEIGHBOUR, BARE, 2)
        self.parted(FIRST_TWO, one_state(
            ask(("empty", "a"), go((), (("keep", "a"),)), ask(("item", "a"), go((("item",),)), go((), (("keep", "b"),)))),
            end("yes", (("box", "a"), ("box", "b"))), (), ("a", "b")), 3)

    def test_parted_by_a_verdict(self):
        self.parted(ring_machine(5, "w", ("w",)), ring_machine(5, "w", ("w",), (4,)), 4)
        self.parted(BARE, one_state(go(), end("no")), 0)

    def test_parted_by_the_row_of_an_end(self):
        keep = go((), (("keep", "x"),))
        self.parted(one_state(keep, end("yes", (("box", "x"),)), (), ("x",)), one_state(keep, end(), (), ("x",)), 1)
        first = one_state(ask(("empty", "x"), keep, go()), end("yes", (("box", "x"),)), (), ("x",))
        self.parted(first, one_state(keep, end("yes", (("box", "x"),)), (), ("x",)), 2)

    def test_parted_on_the_empty_list(self):
        one = one_state(go(), end("yes", (("word", "w"),)), ("w",))
        self.parted(one, BARE, 0)
        self.assertEqual(parting_of(one, BARE), ())

    def test_parted_by_a_word_of_the_one_alone(self):
        one = one_state(ask(("word", "w"), go((("item",), ("item",))), go((("item",),))), None, ("w",))
        other = one_state(go((("item",),)))
        self.parted(one, other, 1)
        self.assertEqual(parting_of(one, other), ("w",))
        self.assertEqual(parting_of(other, one), ("w",))
        third = one_state(ask(("word", "u"), go((("item",),)), go((("item",),))), None, ("u",))
        self.parted(one, third, 1)
        self.alike(other, third)

    def test_parted_only_by_what_was_let_go_and_comes_again(self):
        self.parted(keeps_first(True), keeps_first(False), 3)
        self.assertEqual(parting_of(keeps_first(True), keeps_first(False)), (0, 0, 0))

    def test_a_thing_that_one_has_let_go_is_new_for_it(self):
        # Both keep the last item; the one forgets it at each second item, and tells a new one behind that.
        forgets = ((), ("x",), (
            ("one", ask(("item", "x"), go((), (("keep", "x"),), "two"), go((("item",),), (("keep", "x"),), "two")), end()),
            ("two", ask(("item", "x"), go((), (("empty", "x"),), "one"), go((("item",),), (("empty", "x"),), "one")), end())))
        keeps = one_state(ask(("item", "x"), go(), go((("item",),), (("keep", "x"),))), None, (), ("x",))
        self.parted(forgets, keeps, 3)

    def test_pairs_of_small_machines(self):
        lengths = {}
        for one, other in machine_pairs(1, 250):
            words = both_words(one, other)
            lists = plain_lists(words, 3)
            first = next((len(x) for x in lists if behaviour_for(one, x) != behaviour_for(other, x)), None)
            way = parting_of(one, other)
            if way is None:
                self.assertIs(first, None)
                self.alike(one, other)
            elif len(way) <= 4:
                self.parted(one, other, len(way))
            lengths[None if way is None else len(way)] = True
        self.assertTrue({None, 0, 1, 2, 3} <= set(lengths))

    def test_partings_may_be_long(self):
        one = ring_machine(70, "w", ("w",), (69,))
        self.assertEqual(parting_of(one, ring_machine(71, "w", ("w",))), ("w",) * 69)
        refused = tuple(range(0, 300, 2))
        self.assertEqual(flows_parting(ring(300, "w", ("w",), refused), ring(299, "w", ("w",), refused)), ("w",) * 299)

    def test_what_is_passed_is_not_changed(self):
        one, other = copy.deepcopy(NEIGHBOUR), copy.deepcopy(NEIGHBOUR_TOO)
        for call in (are_alike, parting_of, alike_paper):
            self.assertEqual(call(one, other), call(one, other))
            self.assertEqual(call(one, BARE), call(one, BARE))
        self.assertEqual((one, other), (NEIGHBOUR, NEIGHBOUR_TOO))


class Flows(unittest.TestCase):
    def test_places_numbered_otherwise_and_such_as_are_never_met(self):
        yes = ("yes", ())
        turned = (("same",), (
            (0, (((), 3, ()), ((), 1, (None,))), yes),
            (1, (((), 3, ()), (("same",), 1, (0,)), ((), 1, (None,))), yes),
            (2, (((), 0, ()), (("same",), 1, (1,)), ((), 1, (0,)), ((None,), 2, (None, 0))), ("no", (0, 1))),
            (0, ((("same",), 3, ()), ((), 1, (None,))), yes)))
        self.assertIs(flows_alike(NEIGHBOUR_FLOW, turned), True)
        self.assertIs(flows_parting(turned, NEIGHBOUR_FLOW), None)
        places = list(turned[1])
        places[3] = (0, (((), 3, ()), ((), 1, (None,))), yes)
        parted = turned[0], tuple(places)
        self.assertEqual(flows_parting(NEIGHBOUR_FLOW, parted), ("same", "same"))

    def test_unlike_words(self):
        for one, other in ((flow_of(NEIGHBOUR), flow_of(BARE)), (flow_of(BARE), flow_over(BARE, ("same",)))):
            for call in (flows_alike, flows_parting):
                with self.assertRaises(BadQuestion):
                    call(one, other)
                with self.assertRaises(BadQuestion):
                    call(other, one)

    def test_a_bad_flow(self):
        for call in (flows_alike, flows_parting):
            for thing in wrong_things():
                with self.assertRaises(BadFlow) as caught:
                    call(thing, ((), None))
                self.assertEqual(caught.exception.place, ())
                with self.assertRaises(BadFlow) as caught:
                    call(flow_of(BARE), thing)
                self.assertEqual(caught.exception.place, ())
            with self.assertRaises(BadFlow) as caught:
                call((("a",), None), None)
            self.assertEqual(caught.exception.place, (1,))

    def test_a_bad_machine(self):
        for call in (are_alike, parting_of, alike_paper, lambda one, other: check_alike(one, other, None)):
            for thing in wrong_things():
                with self.assertRaises(BadMachine) as caught:
                    call(thing, ((), None, None))
                self.assertEqual(caught.exception.place, ())
                with self.assertRaises(BadMachine) as caught:
                    call(BARE, ((), (), (("on", go(), thing),)))
                self.assertEqual(caught.exception.place, (2, 0, 2))
            with self.assertRaises(BadMachine):
                call(wide_machine(76, False), None)

    def test_too_many_places(self):
        for call in (are_alike, parting_of, alike_paper):
            for pair in ((wide_machine(76, False), BARE), (BARE, wide_machine(76, False))):
                with self.assertRaises(TooMany) as caught:
                    call(*pair)
                self.assertEqual(caught.exception.most, 300)

    def test_how_many_joints(self):
        words = ("a", "b")
        self.assertIs(flows_alike(ring(100, "a", words), ring(200, "b", words)), True)
        for call in (flows_alike, flows_parting):
            with self.assertRaises(TooMany) as caught:
                call(ring(100, "a", words), ring(201, "b", words))
            self.assertEqual(caught.exception.most, 20000)

    def test_only_joints_by_shorter_lists_count(self):
        # By lists of fewer than N items one comes to N * (N + 1) / 2 JOINTS: 19,900 for 199, and 20,100 for 200.
        words = ("a", "b")
        self.assertEqual(flows_parting(ring(220, "a", words, (199,)), ring(230, "b", words)), ("a",) * 199)
        # The last JOINT of its layer parts here: those behind the ones ahead of it do not count.
        self.assertEqual(flows_parting(ring(220, "b", words, (199,)), ring(230, "a", words)), ("b",) * 199)
        for word, other_word in (("a", "b"), ("b", "a")):
            with self.assertRaises(TooMany):
                flows_parting(ring(220, word, words, (200,)), ring(230, other_word, words))

    def test_too_many_joints_of_machines(self):
        def counts(word, refused=()):
            words, places = ("a", "b"), []
            names = ["s" + "abcdefghij"[at // 10] + "abcdefghij"[at % 10] for at in range(80)]
            keep = (("keep", "x"),)
            for at, name in enumerate(names):
                on = names[(at + 1) % 80]
                places.append((name, ask(("word", word), ask(("empty", "x"), go((), keep, on), go((), (("empty", "x"),), on)),
                                         go((), (), name)), end("no" if at in refused else "yes")))
            return words, ("x",), tuple(places)

        one, other = counts("a"), counts("b")
        self.assertEqual(len(alike_paper(one, other)[1]), 6400)
        self.assertEqual(check_alike(one, other, alike_paper(one, other)), "alike")
        self.assertEqual(parting_of(counts("a", (79,)), other), ("a",) * 79)


class Papers(unittest.TestCase):
    def refused(self, part, paper, one=NEIGHBOUR, other=NEIGHBOUR_TOO):
        with self.assertRaises(BadPaper) as caught:
            check_alike(one, other, paper)
        self.assertEqual(caught.exception.part, part, repr(paper)[:200])

    def test_papers_that_are_told_hold(self):
        for one, other in [(NEIGHBOUR, NEIGHBOUR_TOO), (FIRST_TWO, FIRST_TWO_TOO), (BARE, FIRST_TWO)] + machine_pairs(2, 80):
            paper = alike_paper(one, other)
            self.assertEqual(paper[0], "alike" if are_alike(one, other) else "parted")
            self.assertEqual(check_alike(one, other, paper), paper[0])
            if paper[0] == "parted":
                self.assertEqual(len(paper[1]), len(parting_of(one, other)))

    def test_a_closed_lot_by_hand(self):
        lot = ((0, 0, ()), (1, 1, ((0, 0),)), (2, 2, ((0, 1), (1, 0))))
        self.assertEqual(alike_paper(FIRST_TWO, FIRST_TWO_TOO), ("alike", lot))
        self.assertEqual(check_alike(FIRST_TWO, FIRST_TWO_TOO, ("alike", lot)), "alike")

    def test_lots_that_are_not_closed(self):
        a, b, c = (0, 0, ()), (1, 1, ((0, 0),)), (2, 2, ((0, 1), (1, 0)))
        for lot in ((), (a,), (b,), (a, b), (a, c), (b, c), (a, b, (2, 2, ())), (a, b, (2, 2, ((0, 0), (1, 1)))),
                    (a, b, (2, 2, ((0, 1),)), c), (a, b, (2, 2, ((0, 0), (1, 1))), c), (a, (0, 1, ()), b, c),
                    (a, (1, 1, ()), b, c), (a, b, (2, 1, ((0, 0),)), c), (a, b, (2, 1, ()), c),
                    (a, b, (2, 2, ((0, 1), (1, 2)))), (a, b, (2, 2, ((0, 1), (2, 0)))), (a, b, c, (3, 0, ())),
                    (a, (0, 3, ()), b, c), (a, b, c, (299, 299, ())), (a, (0, 0, ((0, 0),)), b, c),
                    (a, b, c, (2, 2, ((15, 15),))), (a, (1, 1, ((0, 0), (1, 1))), b, c)):
            self.refused("form" if list(lot) != sorted(set(lot)) else "alike", ("alike", tuple(lot)), FIRST_TWO, FIRST_TWO_TOO)
            self.refused("alike", ("alike", tuple(sorted(set(lot)))), FIRST_TWO, FIRST_TWO_TOO)

    def test_a_lot_may_be_greater_than_needed(self):
        # The third place of the first machine's flow and the box that both have cannot be told apart from others.
        one = one_state(go((), (("keep", "x"),)), None, (), ("x",))
        need = ((0, 0, ()), (1, 1, ((0, 0),)))
        self.assertEqual(alike_paper(one, one), ("alike", need))
        for more in (((0, 1, ()),), ((1, 0, ()),), ((1, 1, ()),), ((0, 1, ()), (1, 0, ()), (1, 1, ()))):
            self.assertEqual(check_alike(one, one, ("alike", tuple(sorted((*need, *more))))), "alike")
        self.refused("alike", ("alike", ((0, 0, ()), (1, 1, ()))), one, one)

    def test_a_joint_that_is_not_good(self):
        for other in (one_state(go((), (("keep", "x"),)), end("no"), (), ("x",)),
                      one_state(go((("item",),), (("keep", "x"),)), end(), (), ("x",)),
                      one_state(go((), (("keep", "x"),)), end("yes", (("box", "x"),)), (), ("x",))):
            one = one_state(go((), (("keep", "x"),)), None, (), ("x",))
            self.refused("alike", ("alike", ((0, 0, ()), (1, 1, ((0, 0),)))), one, other)

    def test_lists_that_part_and_such_as_do_not(self):
        one, other = NEIGHBOUR, BARE
        for things in (("x", "x"), (0, 0), (1, "1", "1"), ("same", "same"), ("z",) * 25000):
            self.assertEqual(check_alike(one, other, ("parted", things)), "parted")
        for things in ((), ("x",), (1, "1", 1), ("same",), tuple(range(25000)), (0, 1, 0)):
            self.refused("parted", ("parted", things), one, other)
        self.refused("parted", ("parted", ("x", "x")))

    def test_what_has_no_form(self):
        good = (0, 0, ())
        for paper in [*wrong_things(), 1, "alike", (), ("alike",), ("alike", (good,), ()), ["alike", (good,)],
                      ("Alike", (good,)), (Agrees(), (good,)), (True, (good,)), ("within", (good,)), ("escaped", ()),
                      ("alike", [good]), ("alike", None), ("alike", "ab"), ("parted", None), ("parted", "ab"),
                      ("parted", [1])]:
            self.refused("form", paper)
            self.refused("form", paper, FIRST_TWO, BARE)

    def test_joints_that_have_no_form(self):
        good = (0, 0, ())
        for joint in [*wrong_things(), 1, "abc", (), (0, 1), (0, 1, (), ()), [0, 1, ()], (0, True, ()), (0, "1", ()),
                      (0, None, ()), (0, 1, None), (0, 1, []), (0, 300, ()), (300, 0, ()), (0, -1, ()), (1, -1, ()),
                      (0, 1, ((0,),)), (0, 1, ((0, 0, 0),)), (0, 1, ([0, 0],)), (0, 1, ("ab",)), (0, 1, ((0, True),)),
                      (0, 1, ((False, 0),)), (0, 1, ((0, 16),)), (0, 1, ((16, 0),)), (0, 1, ((0, -1),)),
                      (0, 1, ((-1, 0),)), (0, 1, ((0, 0), (0, 1))), (0, 1, ((0, 0), (1, 0))), (0, 1, ((1, 0), (0, 1))),
                      (0, 1, ((0, 0), (0, 0))), (0, 1, ((0, Agrees()),)), (Agrees(), 1, ()), (0, 1, Agrees()),
                      (0, 1, tuple((at, at) for at in range(17)))]:
            self.refused("form", ("alike", (good, joint)))
            self.refused("form", ("alike", (joint,)))

    def test_joints_that_do_not_ascend(self):
        for joints in (((0, 0, ()), (0, 0, ())), ((0, 1, ()), (0, 0, ())), ((1, 0, ()), (0, 0, ())),
                       ((0, 0, ()), (1, 1, ((0, 1),)), (1, 1, ((0, 0),))), ((0, 0, ()), (1, 1, ((0, 0),)), (1, 1, ()))):
            self.refused("form", ("alike", joints))

    def test_how_many_joints_a_paper_has(self):
        joints = [(p, q, ()) for p in range(300) for q in range(300)]
        self.refused("alike", ("alike", tuple(joints[:20000])))
        self.refused("form", ("alike", tuple(joints[:20001])))
        most = tuple((at, 15 - at) for at in range(16))
        self.refused("alike", ("alike", ((0, 0, ()), (0, 1, most))))

    def test_lists_that_have_no_form(self):
        for things in [(True,), ("",), ("a" * 21,), ("a\n",), (None,), ((1,),), (0, Agrees()), (0,) * 25001, [0, 0]]:
            self.refused("form", ("parted", things), NEIGHBOUR, BARE)

    def test_too_many_places_behind_the_form_and_not_for_a_list(self):
        wide = wide_machine(76, False)
        told = one_state(go((("item",),)))
        for pair in ((wide, told), (told, wide)):
            self.refused("form", ("alike", None), *pair)
            for lot in ((), ((0, 0, ()),), ((299, 0, ()),)):
                with self.assertRaises(TooMany) as caught:
                    check_alike(*pair, ("alike", lot))
                self.assertEqual(caught.exception.most, 300)
            self.assertEqual(check_alike(*pair, ("parted", (1,))), "parted")
            self.refused("parted", ("parted", ()), *pair)

    def test_two_faults_at_once(self):
        with self.assertRaises(BadMachine) as caught:
            check_alike(BARE, None, None)
        self.assertEqual(caught.exception.place, ())
        self.refused("form", ("alike", ((5, 5, ()), (0, 0, ()))))
        self.refused("form", ("alike", ((5, 5, ()), (300, 0, ()))))


if __name__ == "__main__":
    unittest.main()
