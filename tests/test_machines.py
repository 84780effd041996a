"""[3] MACHINES, [4] how a MACHINE goes through a LIST, [5] PATTERNS."""

import copy
import unittest

from onlyalike.errors import BadList, BadMachine
from onlyalike.machines import behaviour_for, need_machine, pattern_behind
from made import FIRST_TWO, NEIGHBOUR, NEIGHBOUR_TOO, Agrees, ask, chain, end, go, one_state, wrong_things

WORDS = ("u", "w")
BOXES = ("a", "b")
GOOD = go()
WHOLE = (WORDS, BOXES, (("on", GOOD, end()), ("off", GOOD, end())))

QUESTIONS = [("empty", "a"), ("like", "a", "b"), ("like", "a", "a"), ("holds", "b", "w")]
ITEM_QUESTIONS = [("item", "a"), ("word", "w")]
TOLD = [("box", "a"), ("word", "u")]
DEEDS = [("keep", "a"), ("copy", "a", "b"), ("copy", "a", "a"), ("empty", "b")]

NO_QUESTIONS = [(), ("item",), ("item", "c"), ("item", "w"), ("item", "a", "b"), ("word", "a"), ("word", "x"), ("word",),
                ("empty", "c"), ("empty",), ("empty", "a", "a"), ("like", "a"), ("like", "a", "c"), ("like", "c", "a"),
                ("like", "a", "b", "a"), ("holds", "w", "a"), ("holds", "a", "a"), ("holds", "a", "x"), ("holds", "a"),
                ("keep", "a"), ("Item", "a"), ["item", "a"], "item", ("item", ["a"]), ("item", True), (Agrees(), "a"),
                ("item", Agrees()), ("word", Agrees()), ("box", "a"), (None, "a"), ("word", 1), (("item",), "a")]
NO_TOLD = [(), ("item", "a"), ("item", "item"), ("box",), ("box", "c"), ("box", "w"), ("box", "a", "b"), ("word", "a"),
           ("word", "x"), ("word",), "item", ["item"], ("keep", "a"), ("empty", "a"), (Agrees(),), ("box", Agrees()),
           (True,), ("word", None), (["item"],)]
NO_DEEDS = [(), ("keep",), ("keep", "c"), ("keep", "w"), ("keep", "a", "b"), ("copy", "a"), ("copy", "a", "c"),
            ("copy", "c", "a"), ("copy", "a", "b", "a"), ("empty", "c"), ("empty",), ("item", "a"), ["keep", "a"], "keep",
            ("keep", Agrees()), (Agrees(), "a"), ("box", "a"), ("keep", 1)]


def with_item(tree, at=0):
    """WHOLE with another ITEM of one of its STATES."""
    states = [list(state) for state in WHOLE[2]]
    states[at][1] = tree
    return WORDS, BOXES, tuple(tuple(state) for state in states)


def with_end(tree, at=0):
    """WHOLE with another END of one of its STATES."""
    states = [list(state) for state in WHOLE[2]]
    states[at][2] = tree
    return WORDS, BOXES, tuple(tuple(state) for state in states)


class Forms(unittest.TestCase):
    def refused(self, thing, place):
        with self.assertRaises(BadMachine) as caught:
            need_machine(thing)
        self.assertEqual(caught.exception.place, place, thing)
        for call in (behaviour_for, pattern_behind):
            with self.assertRaises(BadMachine) as caught:
                call(thing, None)
            self.assertEqual(caught.exception.place, place)

    def test_a_machine_is_told_itself(self):
        for machine in (WHOLE, NEIGHBOUR, NEIGHBOUR_TOO, FIRST_TWO, one_state(go())):
            self.assertIs(need_machine(machine), machine)

    def test_each_form_of_question(self):
        for question in [*QUESTIONS, *ITEM_QUESTIONS]:
            need_machine(with_item(ask(question, go(), go())))
        for question in QUESTIONS:
            need_machine(with_end(ask(question, end(), end("no"))))

    def test_each_form_of_told_things_and_deeds(self):
        for part in [*TOLD, ("item",)]:
            need_machine(with_item(go((part,))))
        for part in TOLD:
            need_machine(with_end(end("no", (part,))))
        for deed in DEEDS:
            need_machine(with_item(go((), (deed,), "off")))
        need_machine(with_item(go((("item",), ("item",)), (("copy", "a", "b"), ("copy", "b", "a")))))

    def test_what_is_no_triple(self):
        for thing in [*wrong_things(), 1, "abc", (), WHOLE[:2], (*WHOLE, ()), list(WHOLE), ("a", "b"), NEIGHBOUR[2]]:
            self.refused(thing, ())

    def test_what_are_no_words(self):
        for words in [*wrong_things(), "a", ("b", "a"), ("a", "a"), ("A",), ("",), (1,), ("abcdefg",), (Agrees(),),
                      ("a", "b", "c", "d", "e")]:
            self.refused((words, (), (("on", go(), end()),)), (0,))
            self.refused((words, None, None), (0,))
        need_machine((("a", "b", "c", "d"), (), (("on", go(), end()),)))

    def test_what_are_no_boxes(self):
        nine = ("a", "b", "c", "d", "e", "f", "g", "h", "i")
        for boxes in [*wrong_things(), "a", ("b", "a"), ("a", "a"), ("A",), ("",), (1,), ("abcdefg",), (Agrees(),), nine]:
            self.refused(((), boxes, (("on", go(), end()),)), (1,))
            self.refused(((), boxes, None), (1,))
        need_machine(((), nine[:8], (("on", go(), end()),)))
        need_machine((("a", "b"), ("a", "b"), (("a", go((), (), "a"), end()),)))

    def test_what_are_no_states(self):
        for states in [*wrong_things(), (), "a", [("on", go(), end())]]:
            self.refused(((), (), states), (2,))

    def test_how_many_states(self):
        names = ["s" + "abcdefghij"[at // 10] + "abcdefghij"[at % 10] for at in range(81)]
        states = tuple((name, go((), (), name), end()) for name in names)
        need_machine(((), (), states[:80]))
        self.refused(((), (), states), (2,))
        self.refused(((), (), (None,) * 81), (2,))

    def test_states_and_their_names(self):
        whole = ("on", go(), end())
        for state in [*wrong_things(), (), "abc", whole[:2], (*whole, 1), list(whole), ("", *whole[1:]), ("On", *whole[1:]),
                      ("abcdefg", *whole[1:]), (1, *whole[1:]), (Agrees(), *whole[1:]), ([], *whole[1:]), whole]:
            self.refused(((), (), (whole, state)), (2, 1))
            self.refused(((), (), (whole, ("off", go(), end()), state, None)), (2, 2))

    def test_names_are_due_ahead_of_all_trees(self):
        self.refused(((), (), (("on", None, None), ("on", go(), end()))), (2, 1))
        self.refused(((), (), (("on", None, None), ("off", go(), end()), 5)), (2, 2))

    def test_trees_are_due_state_by_state(self):
        self.refused(((), (), (("on", None, None), ("off", None, None))), (2, 0, 1))
        self.refused(((), (), (("on", go(), None), ("off", None, None))), (2, 0, 2))
        self.refused(((), (), (("on", go(), end()), ("off", None, None))), (2, 1, 1))
        self.refused(((), (), (("on", go(), end()), ("off", go(), None))), (2, 1, 2))

    def test_what_is_no_tree(self):
        good = ("empty", "a")
        for tree in [*wrong_things(), 1, "go", (), ("go",), GOOD[:3], (*GOOD, ()), list(GOOD), ("Go", (), (), "on"),
                     ("ask", good, GOOD), ("ask", good, GOOD, GOOD, GOOD), ("ask", good, GOOD, None),
                     ("ask", good, None, GOOD), ["ask", good, GOOD, GOOD], (Agrees(), good, GOOD, GOOD),
                     (Agrees(), (), (), "on"), ("go", (), (), "none"), ("go", (), (), 1), ("go", (), (), Agrees()),
                     ("go", (), (), ["on"]), ("go", [], (), "on"), ("go", (), [], "on"), ("go", None, (), "on"), end(),
                     ("ask", good, GOOD, end()), ("go", "", (), "on"), ("go", (), "", "on")]:
            self.refused(with_item(tree), (2, 0, 1))
            self.refused(with_item(tree, 1), (2, 1, 1))
            self.refused(with_item(ask(good, ask(good, GOOD, tree), GOOD)), (2, 0, 1))

    def test_what_is_no_tree_of_an_end(self):
        good = ("empty", "a")
        for tree in [*wrong_things(), 1, "end", (), ("end",), ("end", "yes"), ("end", "yes", (), ()), ["end", "yes", ()],
                     ("end", "Yes", ()), ("end", True, ()), ("end", Agrees(), ()), ("end", "yes", []), ("End", "yes", ()),
                     ("end", ["yes"], ()), (Agrees(), "yes", ()), ("ask", good, end()), ("ask", good, end(), None), GOOD,
                     ("ask", good, None, end()), ("ask", good, GOOD, end()), ("end", "", ()), ("end", "yes", "")]:
            self.refused(with_end(tree), (2, 0, 2))
            self.refused(with_end(tree, 1), (2, 1, 2))
            self.refused(with_end(ask(good, end(), ask(good, tree, end()))), (2, 0, 2))

    def test_what_is_no_question(self):
        for question in [*wrong_things(), 1, "item", *NO_QUESTIONS]:
            self.refused(with_item(ask(question, GOOD, GOOD)), (2, 0, 1))
            self.refused(with_end(ask(question, end(), end())), (2, 0, 2))

    def test_what_is_no_row(self):
        for part in [*wrong_things(), 1, "item", *NO_TOLD]:
            self.refused(with_item(go((("item",), part))), (2, 0, 1))
            self.refused(with_end(end("yes", (part,))), (2, 0, 2))

    def test_what_are_no_deeds(self):
        for part in [*wrong_things(), 1, "keep", *NO_DEEDS]:
            self.refused(with_item(go((), (part,))), (2, 0, 1))
        for deeds in ((("keep", "a"), ("keep", "a")), (("keep", "a"), ("copy", "b", "a")), (("empty", "b"), ("keep", "b")),
                      (("copy", "a", "b"), ("keep", "a"), ("empty", "b"))):
            self.refused(with_item(go((), deeds)), (2, 0, 1))

    def test_what_may_not_stand_in_an_end(self):
        for question in ITEM_QUESTIONS:
            self.refused(with_end(ask(question, end(), end())), (2, 0, 2))
        self.refused(with_end(end("yes", (("item",),))), (2, 0, 2))

    def test_how_deep_a_tree_is(self):
        good = ("empty", "a")
        need_machine(with_item(chain(24, GOOD, good)))
        self.refused(with_item(chain(25, GOOD, good)), (2, 0, 1))
        need_machine(with_end(chain(24, end(), good)))
        self.refused(with_end(chain(25, end(), good)), (2, 0, 2))
        self.refused(with_end(chain(50, end(), good), 1), (2, 1, 2))
        self.refused(with_item(ask(good, chain(24, GOOD, good), GOOD)), (2, 0, 1))

    def test_how_long_rows_and_deeds_are(self):
        need_machine(with_item(go((("item",),) * 9)))
        self.refused(with_item(go((("item",),) * 10)), (2, 0, 1))
        need_machine(with_end(end("yes", (("word", "w"),) * 9)))
        self.refused(with_end(end("yes", (("word", "w"),) * 10)), (2, 0, 2))
        eight = ("a", "b", "c", "d", "e", "f", "g", "h")
        keep = tuple(("keep", box) for box in eight)
        need_machine(one_state(go((), keep), None, (), eight))
        self.refused(one_state(go((), (*keep, ("keep", "a"))), None, (), eight), (2, 0, 1))


# Tells both boxes, and exchanges what they hold; at first it keeps one item, then another one.
EXCHANGE = ((), ("a", "b"), (
    ("one", go((), (("keep", "a"),), "two"), end()),
    ("two", go((), (("keep", "b"),), "swap"), end()),
    ("swap", go((("box", "a"), ("box", "b"), ("item",)), (("copy", "a", "b"), ("copy", "b", "a")), "swap"),
     end("no", (("box", "b"), ("box", "a")))),
))


class Behaviours(unittest.TestCase):
    def test_an_exchange_of_two_boxes(self):
        self.assertEqual(behaviour_for(EXCHANGE, ("x", "y", 5, 6, "y")),
                         (((), (), ("x", "y", 5), ("y", "x", 6), ("x", "y", "y")), "no", ("x", "y")))
        self.assertEqual(behaviour_for(EXCHANGE, ("x", "y")), (((), ()), "no", ("y", "x")))

    def test_deeds_go_by_what_was_held_as_the_item_came(self):
        shift = one_state(go((("box", "a"), ("box", "b")), (("keep", "a"), ("copy", "a", "b"))),
                          end("yes", (("box", "b"), ("box", "a"))), (), ("a", "b"))
        self.assertEqual(behaviour_for(shift, (1, 2, 3)), (((), (1,), (2, 1)), "yes", (2, 3)))
        turned = one_state(go((), (("copy", "a", "b"), ("keep", "a"))), end("yes", (("box", "b"), ("box", "a"))), (),
                           ("a", "b"))
        self.assertEqual(behaviour_for(turned, (1, 2, 3)), (((), (), ()), "yes", (2, 3)))

    def test_a_copy_of_an_empty_box_empties(self):
        machine = ((), ("a", "b"), (
            ("one", go((), (("keep", "b"),), "two"), end()),
            ("two", go((("box", "b"),), (("copy", "a", "b"),), "three"), end("yes", (("box", "b"),))),
            ("three", ask(("empty", "b"), go((("item",), ("box", "b"))), go((("box", "b"),))), end("no", (("box", "b"),))),
            ("on", go(), end())))
        self.assertEqual(behaviour_for(machine, (7,)), (((),), "yes", (7,)))
        self.assertEqual(behaviour_for(machine, (7, 8)), (((), (7,)), "no", ()))
        self.assertEqual(behaviour_for(machine, (7, 8, 9)), (((), (7,), (9,)), "yes", ()))

    def test_a_box_copied_to_itself(self):
        machine = one_state(ask(("empty", "a"), go((), (("keep", "a"),)), go((("box", "a"),), (("copy", "a", "a"),))),
                            end("yes", (("box", "a"),)), (), ("a",))
        self.assertEqual(behaviour_for(machine, (4, 5, 6)), (((), (4,), (4,)), "yes", (4,)))
        still = one_state(go((), (("copy", "a", "a"),)), end("yes", (("box", "a"),)), (), ("a",))
        self.assertEqual(behaviour_for(still, (4,)), (((),), "yes", ()))

    def test_the_empty_list(self):
        self.assertEqual(behaviour_for(EXCHANGE, ()), ((), "yes", ()))
        self.assertEqual(behaviour_for(one_state(go(), end("no", (("word", "w"),)), ("w",)), ()), ((), "no", ("w",)))

    def test_a_word_as_an_item(self):
        self.assertEqual(behaviour_for(NEIGHBOUR, ("x", "x", "same", "same", "x")),
                         (((), ("same",), (), ("same",), ()), "yes", ()))

    def test_unlike_things(self):
        self.assertEqual(behaviour_for(NEIGHBOUR, (1, "1", "1", 1)), (((), (), ("same",), ()), "yes", ()))

    def test_questions_by_what_boxes_hold(self):
        def answers(question, things):
            states = (("one", go((), (("keep", "a"),), "two"), end()),
                      ("two", go((), (("keep", "b"),), "on"), end()),
                      ("on", ask(question, go((("item",),)), go()), end()))
            return behaviour_for((("w",), ("a", "b"), states), things)[0][2:]

        self.assertEqual(answers(("item", "a"), (1, 2, 1, 2, "1")), ((1,), (), ()))
        self.assertEqual(answers(("item", "b"), ("w", "w", "w", 2)), (("w",), ()))
        self.assertEqual(answers(("word", "w"), (1, 2, "w", 1, "u")), (("w",), (), ()))
        self.assertEqual(answers(("empty", "b"), (1, 2, 3)), ((),))
        self.assertEqual(answers(("like", "a", "b"), (1, 2, 3)), ((),))
        self.assertEqual(answers(("like", "a", "b"), (1, "1", 3)), ((),))
        self.assertEqual(answers(("like", "a", "b"), (1, 1, 3)), ((3,),))
        self.assertEqual(answers(("like", "b", "b"), (1, 2, 3)), ((3,),))
        self.assertEqual(answers(("holds", "a", "w"), ("w", 2, 3)), ((3,),))
        self.assertEqual(answers(("holds", "a", "w"), (2, "w", 3)), ((),))

    def test_like_wants_both_boxes_full(self):
        machine = one_state(go((), (("keep", "a"),)), ask(("like", "b", "b"), end("no"), ask(
            ("like", "a", "b"), end("no"), end())), (), ("a", "b"))
        self.assertEqual(behaviour_for(machine, ())[1], "yes")
        self.assertEqual(behaviour_for(machine, (1,))[1], "yes")

    def test_questions_of_an_end(self):
        machine = one_state(go((), (("keep", "a"), ("copy", "a", "b"))), ask(
            ("empty", "a"), end("no", (("word", "w"),)), ask(("holds", "a", "w"), end("no"), ask(
                ("like", "a", "b"), end("yes", (("box", "a"),)), end("yes", (("box", "b"), ("box", "a")))))), ("w",),
            ("a", "b"))
        for things, verdict, row in (((), "no", ("w",)), ((1, "w"), "no", ()), ((2, 2), "yes", (2,)), ((2,), "yes", (2,)),
                                     ((2, 3), "yes", (2, 3))):
            self.assertEqual(behaviour_for(machine, things)[1:], (verdict, row))

    def test_a_full_list_is_gone_through_to_its_end(self):
        rows, verdict, last = behaviour_for(FIRST_TWO, (1, 2) * 500)
        self.assertEqual((len(rows), verdict, last), (1000, "yes", (1, 2)))
        self.assertEqual(rows[:4], ((), (), (1,), (2,)))

    def test_a_bad_machine_is_due_ahead_of_a_bad_list(self):
        for call in (behaviour_for, pattern_behind):
            for things in [*wrong_things(), (1,) * 1001, (True,), ("",), [1]]:
                with self.assertRaises(BadList) as caught:
                    call(NEIGHBOUR, things)
                self.assertIs(caught.exception.given, things)
                with self.assertRaises(BadMachine):
                    call(None, things)

    def test_nothing_that_is_passed_is_changed(self):
        machine, things = copy.deepcopy(EXCHANGE), (1, "x", "1", 1)
        self.assertEqual(behaviour_for(machine, things), behaviour_for(machine, things))
        self.assertEqual((machine, things), (EXCHANGE, (1, "x", "1", 1)))


class Patterns(unittest.TestCase):
    def test_empty_boxes_and_words_held(self):
        self.assertEqual(pattern_behind(NEIGHBOUR, ()), ("on", (None,)))
        self.assertEqual(pattern_behind(NEIGHBOUR, ("x",)), ("on", (0,)))
        self.assertEqual(pattern_behind(NEIGHBOUR, ("x", "same")), ("on", ("same",)))
        self.assertEqual(pattern_behind(one_state(go()), (1, 2)), ("on", ()))

    def test_numbers_go_by_first_coming_in_the_order_of_the_boxes(self):
        keep = (("keep", "c"), ("copy", "c", "b"), ("copy", "b", "a"))
        machine = one_state(go((), keep), None, ("w",), ("a", "b", "c"))
        for things, holds in (((5,), (None, None, 0)), ((5, 6), (None, 0, 1)), ((5, 6, 7), (0, 1, 2)),
                              ((5, 6, 5), (0, 1, 0)), ((5, 5, 6), (0, 0, 1)), ((6, 5, 5), (0, 1, 1)),
                              ((5, "w", 5), (0, "w", 0)), (("w", 5, "w"), ("w", 0, "w")), ((9, 8, 7, 7), (0, 1, 1)),
                              ((1, "1", 1), (0, 1, 0)), ((1, "u", "v"), (0, 1, 2))):
            self.assertEqual(pattern_behind(machine, things), ("on", holds))

    def test_the_state_is_that_behind_the_list(self):
        self.assertEqual(pattern_behind(EXCHANGE, (3,)), ("two", (0, None)))
        self.assertEqual(pattern_behind(EXCHANGE, (3, 4, 5)), ("swap", (0, 1)))
        self.assertEqual(pattern_behind(EXCHANGE, (3, 3)), ("swap", (0, 0)))


if __name__ == "__main__":
    unittest.main()
