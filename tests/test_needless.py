"""[20] what is UNMET, SETTLED, UNUSED, IDLE, DEAD, [21] the CLEANED MACHINE."""

import copy
import random
import unittest

from onlyalike.alike import are_alike
from onlyalike.errors import BadFlow, BadMachine, TooMany
from onlyalike.flows import flow_of, leaves_met, patterns_of, run_flow
from onlyalike.machines import is_so, need_machine, pattern_behind, trees_of
from onlyalike.needed import needed_at
from onlyalike.needless import cleaned, dead_places, idle, settled, unmet, unused
from made import (
    FIRST_TWO, NEIGHBOUR, NEIGHBOUR_TOO, YES, ask, end, go, machine_pairs, one_state, plain_lists, ring, slow_rings,
    small_flow, wide_machine, wrong_things,
)

KEEP_X = go((), (("keep", "x"),))
KEEP_Y = go((), (("keep", "y"),))
TELL = go((("word", "w"),))
# That "x" is like itself is asked only where it holds something; "y" is only asked whether it holds the WORD.
MIXED = (("w",), ("x", "y"), (
    ("on", ask(("empty", "x"), KEEP_X, ask(
        ("like", "x", "x"), ask(("item", "x"), TELL, KEEP_Y), ask(("word", "w"), go(), go((), (), "off")))),
     ask(("empty", "y"), end(), ask(("holds", "y", "w"), end("no"), end("no")))),
    ("off", go((), (), "off"), end("no"))))
MIXED_CLEANED = (("w",), ("x", "y"), (
    ("on", ask(("empty", "x"), KEEP_X, ask(("item", "x"), TELL, KEEP_Y)), ask(("empty", "y"), end(), end("no"))),))
# Settled questions on top of one another, in both answers, and in END; an UNMET STATE ahead of others, and two of them.
STACK = (("w",), ("x", "z"), (
    ("start", ask(("empty", "z"), ask(("holds", "x", "w"), go((), (), "next"), ask(("like", "x", "z"), go((), (), "lost"), ask(
        ("item", "x"), go((), (), "next"), go((), (("keep", "x"),), "next")))), go((), (), "lost")),
     ask(("like", "x", "x"), end("no"), end())),
    ("lost", go((), (), "gone"), end()),
    ("next", go((("box", "x"),), (), "next"), ask(("empty", "x"), end("no"), ask(("empty", "z"), end(), end("no")))),
    ("gone", go((), (), "lost"), end())))
STACK_CLEANED = (("w",), ("x", "z"), (
    ("start", go((), (("keep", "x"),), "next"), end()),
    ("next", go((("box", "x"),), (), "next"), end())))
# The YES and NO of the upper question become the same only behind the lower one, which is SETTLED.
LATER_SAME = (("w",), ("x", "z"), (
    ("on", ask(("word", "w"), ask(("holds", "z", "w"), TELL, KEEP_X), ask(("empty", "x"), KEEP_X, KEEP_X)),
     end("yes", (("box", "x"),))),))


def spots_of(tree):
    """All SPOTS of a TREE, as pairs of the way and of what stands there."""
    out = [((), tree)]
    if tree[0] == "ask":
        for word, part in (("yes", tree[2]), ("no", tree[3])):
            out += [((word, *path), what) for path, what in spots_of(part)]
    return out


def gone_down(machine, most):
    """What is come to by lists of at most so many items, and one more: the answers, and the LEAVES, at SPOTS."""
    answers, leaves = {}, set()
    trees = trees_of(machine)
    for things in plain_lists(machine[0], most):
        name, holds = pattern_behind(machine, things)
        # The numbers of HOLDS are the names of what is kept, and the next one is something new.
        fresh = len({x for x in holds if isinstance(x, int)})
        for part, items in (("item", [*machine[0], *range(fresh + 1)]), ("end", [None])):
            for item in items:
                tree, path = trees[name][part == "end"], ()
                while tree[0] == "ask":
                    answer = "yes" if is_so(tree[1], dict(zip(machine[1], holds)), item) else "no"
                    answers.setdefault((name, part, path), set()).add(answer)
                    tree, path = tree[2 if answer == "yes" else 3], (*path, answer)
                leaves.add((name, part, path))
    return answers, leaves


class Needless(unittest.TestCase):
    def test_unmet_by_hand(self):
        self.assertEqual(unmet(MIXED), ("off",))
        self.assertEqual(unmet(STACK), ("lost", "gone"))
        self.assertEqual(unmet(NEIGHBOUR), ())
        # A STATE to which a TREE leads, but no list; in their order, which is not that of the names.
        three = ((), (), (("b", go((), (), "b"), end()), ("c", go((), (), "a"), end()), ("a", go((), (), "b"), end())))
        self.assertEqual(unmet(three), ("c", "a"))

    def test_settled_by_hand(self):
        self.assertEqual(settled(MIXED), ((("on", "item", ("no",)), "yes"),))
        self.assertEqual(settled(STACK), (
            (("next", "end", ()), "no"), (("next", "end", ("no",)), "yes"),
            (("start", "end", ()), "no"), (("start", "item", ()), "yes"), (("start", "item", ("yes",)), "no"),
            (("start", "item", ("yes", "no")), "no"), (("start", "item", ("yes", "no", "no")), "no")))
        self.assertEqual(settled(LATER_SAME), ((("on", "item", ("yes",)), "no"),))
        self.assertEqual(settled(NEIGHBOUR), ())
        self.assertEqual(settled(FIRST_TWO), ())

    def test_a_question_that_is_settled_only_behind_an_empty_box(self):
        # Where "x" is empty it is not like the item; elsewhere the same question is another one, and answered so or so.
        machine = one_state(ask(("empty", "x"), ask(("item", "x"), TELL, KEEP_X), ask(("item", "x"), TELL, go())),
                            None, ("w",), ("x",))
        self.assertEqual(settled(machine), ((("on", "item", ("yes",)), "no"),))
        self.assertEqual(unused(machine), (("on", "item", ("yes", "yes")),))

    def test_a_question_that_is_never_come_to_is_not_settled(self):
        machine = one_state(ask(("empty", "x"), go(), ask(("word", "w"), ask(("item", "x"), go(), go()), go())), None, ("w",), ("x",))
        self.assertEqual(settled(machine), ((("on", "item", ()), "yes"),))
        self.assertEqual(unused(machine), (
            ("on", "item", ("no", "no")), ("on", "item", ("no", "yes", "no")), ("on", "item", ("no", "yes", "yes"))))

    def test_questions_in_an_end_and_of_words(self):
        machine = one_state(ask(("word", "w"), go((), (("keep", "x"),)), go((), (("keep", "y"),))),
                            ask(("empty", "x"), end(), ask(("holds", "x", "w"), end("no"), end())), ("w",), ("x", "y"))
        self.assertEqual(settled(machine), ((("on", "end", ("no",)), "yes"),))
        self.assertEqual(unused(machine), (("on", "end", ("no", "no")),))

    def test_unused_by_hand(self):
        self.assertEqual(unused(MIXED), (("on", "item", ("no", "no", "no")), ("on", "item", ("no", "no", "yes"))))
        self.assertEqual(unused(STACK), (
            ("next", "end", ("no", "no")), ("next", "end", ("yes",)), ("start", "end", ("yes",)),
            ("start", "item", ("no",)), ("start", "item", ("yes", "no", "no", "yes")),
            ("start", "item", ("yes", "no", "yes")), ("start", "item", ("yes", "yes"))))
        self.assertEqual(unused(NEIGHBOUR), ())
        self.assertEqual(unused(LATER_SAME), (("on", "item", ("yes", "yes")),))

    def test_idle_by_hand(self):
        self.assertEqual(idle(MIXED), (("on", "y"),))
        self.assertEqual(idle(NEIGHBOUR), ())
        # In "later" what "spare" holds may be what "x" holds, too.
        self.assertEqual(idle(NEIGHBOUR_TOO), (("first", "spare"), ("first", "x")))
        # "z" is always empty; what "x" holds is told in the STATE "next".
        self.assertEqual(idle(STACK), (("next", "z"), ("start", "x"), ("start", "z")))
        self.assertEqual(idle(one_state(go())), ())

    def test_a_box_that_holds_a_word_alone(self):
        machine = one_state(
            ask(("word", "w"), go((), (("keep", "x"),)), go((("box", "x"), ("box", "y")), (("keep", "y"),))), None, ("w",), ("x", "y"))
        self.assertEqual(idle(machine), (("on", "x"),))
        # It holds a WORD behind some lists, and a THING that is NEEDED behind others.
        other = one_state(go((("box", "x"),), (("keep", "x"),)), None, ("w",), ("x",))
        self.assertEqual(idle(other), ())

    def test_two_boxes_that_hold_the_same_thing(self):
        # It is NEEDED, so neither is IDLE.
        machine = one_state(go((("box", "x"),), (("keep", "x"), ("keep", "y"))), None, (), ("x", "y"))
        self.assertEqual(idle(machine), ())

    def test_a_box_that_is_idle_in_one_state(self):
        machine = ((), ("x",), (
            ("one", go((), (("keep", "x"),), "two"), end()), ("two", go((("box", "x"),), (), "rest"), end()),
            ("rest", go((), (), "rest"), end()), ("off", go((("box", "x"),), (), "off"), end())))
        self.assertEqual(idle(machine), (("one", "x"), ("rest", "x")))

    def test_dead_places_by_hand(self):
        still = ((), 3, ())
        flow = (("w",), (
            (0, (((), 1, ()), ((), 2, (None,))), YES),
            (0, (still, still), ("no", ("w",))),
            (1, (((), 2, (0,)), ((), 2, (0,)), ((), 4, ())), ("no", (0,))),
            (0, (((), 1, ()), still), ("no", ("w",))),
            (0, (((), 4, ()), ((), 4, ())), YES),
            (0, (((), 5, ()), (("w",), 4, ()),), YES),
            (1, (((), 4, ()), ((0,), 4, ()), ((), 4, ())), YES),
            (1, (((), 4, ()), ((), 7, (0,)), ((), 4, ())), YES),
            (0, (((), 5, ()), ((), 4, ())), YES),
            (0, (((), 4, ()), ((None,), 4, ())), YES)))
        # 0 leads to other ENDs; 2 has a number in its END; 5, 6, 9 tell something; 8 leads there.
        self.assertEqual(dead_places(flow), (1, 3, 4, 7))
        self.assertEqual(needed_at(flow, 7), ())
        self.assertEqual(dead_places(ring(4, "a", ("a",))), (0, 1, 2, 3))
        self.assertEqual(dead_places(ring(4, "a", ("a",), (2,))), ())
        self.assertEqual(dead_places(((), ((0, (((), 0, ()),), ("no", ())),))), (0,))

    def test_a_place_that_keeps_something_for_its_end(self):
        flow = ((), ((0, (((), 1, (None,)),), YES), (1, (((), 1, (0,)), ((), 1, (0,))), ("yes", (0,)))))
        self.assertEqual(dead_places(flow), ())

    def test_unlike_words_in_ends(self):
        flow = (("v", "w"), ((0, (((), 1, ()), ((), 0, ()), ((), 0, ())), ("yes", ("v",))),
                             (0, (((), 1, ()),) * 3, ("yes", ("w",)))))
        self.assertEqual(dead_places(flow), (1,))

    def test_dead_places_tell_the_same_for_all(self):
        for at in range(60):
            flow = small_flow(random.Random(at), 4, 2)
            dead = dead_places(flow)
            for p in dead:
                self.assertEqual(needed_at(flow, p), ())
            if 0 in dead:
                told = {run_flow(flow, things)[1:] for things in plain_lists(flow[0], 3)}
                self.assertEqual(len(told), 1)

    def test_what_lists_come_to(self):
        found = {}
        for machine in [MIXED, STACK, LATER_SAME, NEIGHBOUR_TOO] + [one for one, _ in machine_pairs(41, 120)]:
            answers, leaves = gone_down(machine, 4)
            self.assertEqual(settled(machine), tuple(sorted(
                (spot, *told) for spot, told in answers.items() if len(told) == 1)))
            met = {spot[0] for spot in leaves}
            self.assertEqual(unmet(machine), tuple(state[0] for state in machine[2] if state[0] not in met))
            spots = [(name, part, path) for name, *trees in machine[2] if name in met for part, tree in zip(("item", "end"), trees)
                     for path, what in spots_of(tree) if what[0] != "ask"]
            self.assertEqual(unused(machine), tuple(sorted(set(spots) - leaves)))
            for call in (unmet, settled, unused, idle):
                found[call] = found.get(call, 0) + (call(machine) != ())
            counts = sum(len(items) + len(ends) for items, ends in leaves_met(machine))
            self.assertEqual(counts, len(leaves))
        self.assertTrue(all(many > 5 for many in found.values()), found)

    def test_idle_by_patterns(self):
        for machine in [MIXED, STACK, NEIGHBOUR_TOO] + [one for one, _ in machine_pairs(42, 80)]:
            flow = flow_of(machine)
            wanted = []
            for name, _, _ in machine[2]:
                holds = [(p, holds) for p, (state, holds) in enumerate(patterns_of(machine)) if state == name]
                for at, box in enumerate(machine[1]):
                    if holds and all(not isinstance(held[at], int) or held[at] not in needed_at(flow, p) for p, held in holds):
                        wanted.append((name, box))
            self.assertEqual(idle(machine), tuple(sorted(wanted)))


class Cleaned(unittest.TestCase):
    def test_by_hand(self):
        self.assertEqual(cleaned(MIXED), MIXED_CLEANED)
        self.assertEqual(cleaned(STACK), STACK_CLEANED)
        self.assertEqual(cleaned(NEIGHBOUR), NEIGHBOUR)
        self.assertEqual(cleaned(FIRST_TWO), FIRST_TWO)

    def test_what_becomes_the_same_only_behind_another_question(self):
        self.assertEqual(cleaned(LATER_SAME), (("w",), ("x", "z"), (("on", KEEP_X, end("yes", (("box", "x"),))),)))

    def test_the_deepest_first(self):
        same = ask(("item", "x"), KEEP_X, KEEP_X)
        machine = one_state(ask(("word", "w"), ask(("empty", "x"), same, KEEP_X), ask(("item", "x"), same, same)),
                            None, ("w",), ("x",))
        self.assertEqual(cleaned(machine), one_state(KEEP_X, None, ("w",), ("x",)))
        # Both are the same TREE, with a question that has to stay.
        stays = ask(("item", "x"), TELL, KEEP_X)
        twice = one_state(ask(("word", "w"), stays, stays), None, ("w",), ("x",))
        self.assertEqual(cleaned(twice), one_state(stays, None, ("w",), ("x",)))

    def test_states_that_only_unmet_ones_lead_to(self):
        machine = ((), (), (("x", go((), (), "x"), end()), ("y", go((), (), "z"), end()), ("z", go((), (), "y"), end())))
        self.assertEqual(cleaned(machine), ((), (), (("x", go((), (), "x"), end()),)))

    def test_it_is_alike_and_nothing_in_it_is_settled(self):
        for machine in [MIXED, STACK, LATER_SAME, NEIGHBOUR_TOO] + [one for one, _ in machine_pairs(43, 150)]:
            clean = need_machine(cleaned(machine))
            self.assertEqual(clean[:2], machine[:2])
            self.assertIs(are_alike(clean, machine), True)
            self.assertEqual((unmet(clean), settled(clean), unused(clean)), ((), (), ()))
            self.assertEqual(cleaned(clean), clean)
            for _, *trees in clean[2]:
                for tree in trees:
                    self.assertFalse([1 for _, what in spots_of(tree) if what[0] == "ask" and what[2] == what[3]])

    def test_a_deep_tree_that_shares_its_parts(self):
        tree = go()
        for _ in range(14):
            tree = ask(("empty", "x"), tree, tree)
        machine = one_state(tree, None, (), ("x",))
        self.assertEqual(cleaned(machine), one_state(go(), None, (), ("x",)))
        self.assertEqual(len(settled(machine)), 14)
        self.assertEqual(len(unused(machine)), 2 ** 14 - 1)


class Refusals(unittest.TestCase):
    def test_what_is_refused(self):
        for call in (unmet, settled, unused, idle, cleaned):
            for thing in [*wrong_things(), 1, "a", ()]:
                with self.assertRaises(BadMachine) as caught:
                    call(thing)
                self.assertEqual(caught.exception.place, ())
            with self.assertRaises(TooMany) as caught:
                call(wide_machine(76, False))
            self.assertEqual(caught.exception.most, 300)
            call(wide_machine(75, False))
        for thing in [*wrong_things(), 1, "a", ()]:
            with self.assertRaises(BadFlow) as caught:
                dead_places(thing)
            self.assertEqual(caught.exception.place, ())

    def test_too_many_joints(self):
        slow = slow_rings()
        with self.assertRaises(TooMany) as caught:
            idle(slow)
        self.assertEqual(caught.exception.most, 20000)
        # The others do not ask what is NEEDED.
        self.assertEqual((unmet(slow), unused(slow)), ((), ()))

    def test_nothing_is_changed_and_the_same_is_told(self):
        machine = copy.deepcopy(STACK)
        for call in (unmet, settled, unused, idle, cleaned):
            self.assertEqual(call(machine), call(machine))
        self.assertEqual(machine, STACK)


if __name__ == "__main__":
    unittest.main()
