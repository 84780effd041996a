"""[27] SPOTS and REFS, [28] TESTS, [29] CONDITIONS, [30] COMPILED."""

import copy
import random
import unittest

from onlyalike.conditions import compile_condition, does_hold, kept_by_form, need_condition, words_of_condition
from onlyalike.errors import BadCondition, BadList, TooMany
from onlyalike.flows import need_flow, run_flow
from asked import (
    AND, EIGHT_KEPT, EIGHT_LASTS, NINTH_KEPT, NINTH_LAST, OR, asks_words, deep_test, holds, is_so, some_condition,
)
from made import Agrees, plain_lists, wrong_things

NOW, FIRST = ("now",), ("first",)
IS_A = ("is", NOW, "a")
AT_0 = ("none", ("back", 1))
AT_1 = ("and", (("not", AT_0), ("none", ("back", 2))))
AT_3 = ("ahead", ("ahead", ("ahead", AT_0)))


def at(spot, test):
    """The TEST is so at a SPOT, one of 0, 1, 3."""
    return "some", ("and", ({0: AT_0, 1: AT_1, 3: AT_3}[spot], test))


class Holding(unittest.TestCase):
    def holds(self, condition, *lists):
        for things in lists:
            self.assertIs(does_hold(condition, things), True, things)
            self.assertIs(does_hold(("not", condition), things), False, things)

    def holds_not(self, condition, *lists):
        for things in lists:
            self.assertIs(does_hold(condition, things), False, things)
            self.assertIs(does_hold(("not", condition), things), True, things)


class Spots(Holding):
    def test_the_spots_themselves(self):
        for things in ((), ("a",), (5, 5), (1, 2, 3, 4), (1, 2, 3, 4, 5)):
            for spot in (0, 1, 3):
                self.assertIs(does_hold(at(spot, AND), things), len(things) > spot)

    def test_now_at_each_spot(self):
        self.holds(at(0, IS_A), ("a",), ("a", "b", "c"))
        self.holds_not(at(0, IS_A), (), ("b",), ("b", "a"), ("A",), (0,))
        self.holds(at(3, IS_A), (1, 2, 3, "a"), ("a", "a", "a", "a", 5))
        self.holds_not(at(3, IS_A), (1, 2, 3), ("a", "a", "a", "b"))
        self.holds(("all", ("like", NOW, NOW)), (), (1,), ("a", 1, "1"))
        self.holds_not(("some", ("none", NOW)), (), (1, 2, 3))

    def test_back(self):
        for k in (1, 2, 3):
            back = ("back", k)
            self.holds(at(3, ("like", NOW, back)), tuple(7 if x in (3, 3 - k) else -x for x in range(4)))
            self.holds_not(at(3, ("like", NOW, back)), (1, 2, 3, 4), tuple(7 if x == 3 else x for x in range(4)))
            self.holds_not(at(0, ("like", NOW, back)), (1, 1, 1, 1))
            self.holds(at(0, ("none", back)), (1,), (1, 1, 1))
            # At the SPOT K - 1 there is none yet, at K there is.
            self.holds(("rest", 4, k, ("none", back)), (1,) * k, (1,) * (k + 5), ("a", "b", "c", "d", "e"))
            self.holds_not(("rest", 4, k, ("none", back)), (1,) * (k - 1))
        self.holds(("some", ("is", ("back", 2), "a")), ("a", 1, 2), (5, "a", 1, 2, 3))
        self.holds_not(("some", ("is", ("back", 2), "a")), ("a", 1), (1, 2, "a"), (1, "a", 2))

    def test_first(self):
        self.holds(("all", ("like", NOW, FIRST)), (), (1,), (1, 1), ("a", "a", "a"))
        self.holds_not(("all", ("like", NOW, FIRST)), (1, 2), (1, 1, "1"))
        # At the SPOT 0 it is the item there.
        self.holds(at(0, ("like", NOW, FIRST)), (3,), (3, 4))
        self.holds_not(("some", ("none", FIRST)), (), (1,), (1, 2))
        self.holds(at(3, ("is", FIRST, "a")), ("a", 1, 2, 3), ("a", "a", "a", "a", 1))
        self.holds_not(at(3, ("is", FIRST, "a")), (1, "a", "a", "a"), ("a", 1, 2))

    def test_last(self):
        last_a = ("last", IS_A)
        self.holds(("end", ("is", last_a, "a")), ("a", 1), ("a", 1, "a"), (0, "a", 2, 3))
        # Only a lesser SPOT counts.
        self.holds_not(("end", ("is", last_a, "a")), (), ("a",), (1, 2, "a"))
        self.holds(("end", ("none", last_a)), ("a",), (1, 2, "a"), (1,))
        # The greatest one.
        behind_a = ("last", ("is", ("back", 1), "a"))
        self.holds(("end", ("like", NOW, behind_a)), ("a", 1, 1), ("a", 1, "a", 2, 3, 2), ("a", 1, "a", 2, 2))
        self.holds_not(("end", ("like", NOW, behind_a)), ("a", 1), ("a", 1, "a", 2, 1), ("a", 1, 2), ("a", 1, "a", 1)[:2])
        self.holds(("end", ("like", NOW, ("last", AND))), (1, 2, 2))
        self.holds_not(("end", ("like", NOW, ("last", AND))), (2, 1, 2), (2,))
        self.holds(("all", ("none", ("last", OR))), (), (1, 2, 3))

    def test_a_last_within_a_last(self):
        # The item at the last SPOT at which it was like the item of the last "a" ahead of it: so at a later "a".
        inner = ("last", IS_A)
        twice = ("last", ("like", NOW, inner))
        self.holds(("end", ("is", twice, "a")), ("a", "a", 1), (1, "a", 2, "a", 3, 4))
        self.holds_not(("end", ("is", twice, "a")), ("a", 1, 2), ("a", "a"), (1, 2, 3, "a"))
        # The last item that is unlike the one kept when it came.
        changed = ("last", ("not", ("like", NOW, ("last", AND))))
        self.holds(("end", ("like", NOW, changed)), (1, 1), (1, 2, 2, 2), (3, 1, 1))
        self.holds_not(("end", ("like", NOW, changed)), (1,), (1, 2), (1, 2, 1))

    def test_like_where_a_ref_tells_none(self):
        for one, other in ((NOW, ("back", 1)), (("back", 1), NOW), (("back", 1), ("back", 1)), (("back", 2), ("back", 1))):
            self.holds_not(at(0, ("like", one, other)), (1,), ("a", "a"))
        self.holds_not(("some", ("like", ("last", OR), ("last", OR))), (1, 2, 3))
        self.holds(at(1, ("like", ("back", 1), ("back", 1))), (1, 2))
        self.holds_not(("some", ("is", ("last", OR), "a")), ("a", "a"))

    def test_what_is_like(self):
        self.holds(("end", ("like", NOW, ("back", 1))), (1, 1), ("1", "1"), ("a", "a"), (-(10 ** 40), -(10 ** 40)))
        self.holds_not(("end", ("like", NOW, ("back", 1))), (1, "1"), ("a", "A"), (0, "0"))
        self.holds(("some", ("is", NOW, "word")), ("word",), (1, "word"))
        self.holds_not(("some", ("is", NOW, "word")), ("words",), ("Word",), ("w", "ord"))

    def test_and_or_not_of_tests(self):
        self.holds(("all", AND), (), (1,), (1, 2))
        self.holds(("some", AND), (1,), (1, 2))
        self.holds_not(("some", OR), (), (1,), (1, 2))
        self.holds(("some", ("not", OR)), (1,))
        self.holds_not(("some", ("not", AND)), (1,))
        both = ("and", (IS_A, ("none", ("back", 1))))
        self.holds(("some", both), ("a", 1), ("a",))
        self.holds_not(("some", both), (1, "a"))
        either = ("or", (IS_A, ("is", NOW, "b"), OR))
        self.holds(("all", either), ("a", "b"), ("b",))
        self.holds_not(("all", either), ("a", "c"))
        self.holds_not(("some", ("and", (AND, OR))), (1,))

    def test_once(self):
        once = ("once", IS_A)
        self.holds(("end", once), ("a",), ("a", 1, 2), (1, "a", 2))
        self.holds_not(("end", once), (), (1,), (1, 2, "b"))
        self.holds(("rest", 4, 2, once), (1, "a", 1), ("a", 1))
        self.holds_not(("rest", 4, 2, once), (1, "a", 1, 1), (1, 1))
        self.holds(("end", ("once", ("once", ("like", NOW, ("back", 1))))), (1, 1, 2, 3))

    def test_ahead(self):
        ahead = ("ahead", IS_A)
        self.holds(("end", ahead), ("a", 1), (1, "a", "a"))
        self.holds_not(("end", ahead), (), ("a",), ("a", 1, 2))
        self.holds_not(at(0, ("ahead", AND)), (1, 2))
        self.holds_not(at(0, ("ahead", OR)), (1, 2))
        self.holds(at(0, ("not", ("ahead", AND))), (1, 2))
        self.holds(("end", ("ahead", ("ahead", IS_A))), ("a", 1, 2))
        # What it tells there is by what was kept there.
        self.holds(("end", ("ahead", ("like", NOW, ("back", 1)))), (1, 1, 2))
        self.holds_not(("end", ("ahead", ("like", NOW, ("back", 1)))), (1, 2, 2))
        self.holds(("end", ("ahead", ("once", IS_A))), ("a", 1, 1), ("a", 1))
        self.holds_not(("end", ("once", ("ahead", IS_A))), ("a",))


class Conditions(Holding):
    def test_the_empty_list(self):
        for test in (AND, OR, IS_A):
            self.holds(("all", test), ())
            self.holds_not(("some", test), ())
            self.holds_not(("end", test), ())
            self.holds_not(("least", 1, test), ())
            self.holds(("rest", 3, 0, test), ())
            self.holds_not(("rest", 3, 1, test), ())
        self.holds(("and", ()), (), (1, 2))
        self.holds_not(("or", ()), (), (1, 2))

    def test_some_all_end(self):
        self.holds(("some", IS_A), ("a",), (1, "a", 2))
        self.holds_not(("some", IS_A), (1,), ("b", 2))
        self.holds(("all", IS_A), ("a",), ("a", "a"))
        self.holds_not(("all", IS_A), (1,), ("a", 2), (2, "a"))
        self.holds(("end", IS_A), ("a",), (1, "a"))
        self.holds_not(("end", IS_A), ("a", 1), (1,))

    def test_least(self):
        for k in (1, 2, 3, 4):
            self.holds(("least", k, IS_A), ("a",) * k, ("a", 0) * k, ("a",) * (k + 3))
            self.holds_not(("least", k, IS_A), (), ("a",) * (k - 1), (0, "a") * (k - 1))

    def test_rest(self):
        for modulus in (2, 3, 4):
            for rest in range(modulus):
                condition = ("rest", modulus, rest, IS_A)
                for many in range(9):
                    self.assertIs(does_hold(condition, ("a", 1) * many), many % modulus == rest)

    def test_and_or_not(self):
        some, end = ("some", IS_A), ("end", ("is", NOW, "b"))
        self.holds(("and", (some, end)), ("a", "b"))
        self.holds_not(("and", (some, end)), ("b",), ("a",), ("b", "a"))
        self.holds(("or", (some, end)), ("a", 1), ("b",), (1, "b"))
        self.holds_not(("or", (some, end)), (1,), (), ("b", 1))
        self.holds(("and", (some, ("or", (end, ("and", ()))))), ("a",))

    def test_as_the_document_defines_it(self):
        said = {}
        for seed in range(400):
            chance = random.Random(seed)
            condition = some_condition(chance, chance.randint(3, 6))
            if not self.is_condition(condition):
                continue
            lists = plain_lists(("a", "b"), 3) + [tuple(chance.choice(("a", "b", 0, 1, 2)) for _ in range(9)) for _ in range(9)]
            for things in lists:
                wanted = holds(condition, things)
                said[wanted] = said.get(wanted, 0) + 1
                self.assertIs(does_hold(condition, things), wanted, (condition, things))
        self.assertTrue(min(said.values()) > 4000, said)

    def is_condition(self, thing):
        try:
            return need_condition(thing) is thing
        except BadCondition:
            return False

    def test_long_lists(self):
        deep = ("end", ("like", NOW, ("last", ("like", NOW, ("last", ("like", NOW, ("last", AND)))))))
        things = tuple(x // 2 % 7 for x in range(1000))
        self.assertIs(does_hold(deep, things[:60]), holds(deep, things[:60]))
        self.assertIn(does_hold(deep, things), (True, False))
        self.assertIs(does_hold(("end", ("once", ("once", ("once", IS_A)))), ("a",) + things[:999]), True)

    def test_nothing_is_changed_and_the_same_is_told(self):
        condition = ("and", tuple(("some", test) for test in EIGHT_KEPT[:2]))
        same = copy.deepcopy(condition)
        for _ in range(2):
            self.assertEqual(compile_condition(condition), compile_condition(same))
            self.assertIs(does_hold(condition, (1, 1, 1)), does_hold(same, (1, 1, 1)))
        self.assertEqual(condition, same)


class Forms(unittest.TestCase):
    def fine(self, condition):
        self.assertIs(need_condition(condition), condition)

    def refused(self, thing):
        for call in (need_condition, kept_by_form, words_of_condition, compile_condition, lambda x: does_hold(x, None)):
            with self.assertRaises(BadCondition) as caught:
                call(thing)
            self.assertIs(caught.exception.given, thing)

    def test_what_is_no_condition(self):
        for thing in [*wrong_things(), 1, "some", "", (), ("some",), ("some", AND, AND), ["some", AND], ("Some", AND), (Agrees(), AND),
                      (("some",), AND), ("like", NOW, NOW), NOW, AND + ((),), IS_A, ("once", AND), ("is", NOW, "a"), ("none", NOW),
                      ("and",), ("and", None), ("and", []), ("and", AND), ("and", (IS_A,)), ("and", "ab"), ("or", ("some", AND)),
                      ("not",), ("not", IS_A), ("not", None), ("not", ()), ("not", ("some", AND), ("some", AND))]:
            self.refused(thing)
        # These are CONDITIONS, too.
        self.fine(("not", AND))
        self.fine(("and", (AND, OR)))
        self.refused(("some", ("and", (("some", AND),))))

    def test_what_is_no_test(self):
        for test in [*wrong_things(), 1, "a", (), ("now",), ("like", NOW), ("like", NOW, NOW, NOW), ["like", NOW, NOW], ("like", AND, NOW),
                     ("like", NOW, None), ("is", NOW), ("is", NOW, "A"), ("is", NOW, ""), ("is", NOW, "abcdefg"), ("is", NOW, 1),
                     ("is", NOW, None), ("is", NOW, ("a",)), ("is", NOW, Agrees()), ("is", AND, "a"), ("none", AND), ("none",),
                     ("none", None), ("not", NOW), ("not", None), ("and", [AND]), ("and", (NOW,)), ("and", AND, AND), ("or", None), ("or", (None,)),
                     ("once", NOW), ("once",), ("ahead", None), ("ahead", (AND,)), ("some", AND), ("all", AND), ("Not", AND),
                     (Agrees(), AND), ("last", AND)]:
            for condition in (("some", test), ("all", test), ("end", test), ("least", 1, test), ("rest", 2, 0, test),
                              ("some", ("not", test)), ("some", ("and", (AND, test))), ("not", ("some", test)),
                              ("and", (("some", AND), ("some", test))), ("end", ("none", ("last", test)))):
                self.refused(condition)

    def test_what_is_no_ref(self):
        for ref in [*wrong_things(), 1, "now", (), ("now", 1), ["now"], ("Now",), (Agrees(),), ("back",), ("back", 0), ("back", 4), ("back", -1),
                    ("back", True), ("back", "1"), ("back", None), ("back", 1, 1), ("back", Agrees()), ("first", 1), ("last",), ("last", NOW),
                    ("last", None), ("last", AND, AND), ("last", ("some", AND)), ("word", "a"), AND, ("item",)]:
            for test in (("like", ref, NOW), ("like", NOW, ref), ("is", ref, "a"), ("none", ref), ("none", ("last", ("none", ref)))):
                self.refused(("some", test))
        for ref in (NOW, FIRST, ("back", 1), ("back", 2), ("back", 3), ("last", AND)):
            for test in (("like", ref, NOW), ("like", NOW, ref), ("is", ref, "a"), ("none", ref)):
                self.fine(("some", test))

    def test_numbers_at_their_bounds(self):
        for k in (1, 2, 3, 4):
            self.fine(("least", k, AND))
        for k in [*wrong_things(), 0, 5, -1, "1", (1,), 10 ** 50]:
            self.refused(("least", k, AND))
        for modulus in range(2, 5):
            for rest in range(modulus):
                self.fine(("rest", modulus, rest, AND))
            for rest in [*wrong_things(), modulus, 4, -1, "0", (0,)]:
                self.refused(("rest", modulus, rest, AND))
        for modulus in [*wrong_things(), 0, 1, 5, -2, "2"]:
            self.refused(("rest", modulus, 0, AND))
        for condition in (("least", AND), ("least", 1), ("least", 1, 1, AND), ("least", AND, 1), ("rest", 2, AND), ("rest", 2, 0),
                          ("rest", 2, 0, 0, AND), ("some", 1, AND)):
            self.refused(condition)

    def test_how_deep(self):
        self.assertEqual(deep_test(4), ("not", ("not", ("none", ("back", 1)))))
        self.fine(("some", deep_test(7)))
        self.refused(("some", deep_test(8)))
        self.fine(("not", ("some", deep_test(6))))
        self.refused(("not", ("some", deep_test(7))))
        for empty in (AND, OR):
            condition = empty
            for _ in range(7):
                condition = ("and", (condition,))
            self.fine(condition)
            self.refused(("and", (condition,)))
            self.refused(("not", condition))
        # A REF is as deep as what it has in it.
        self.fine(("some", ("none", ("last", deep_test(5)))))
        self.refused(("some", ("none", ("last", deep_test(6)))))
        self.fine(("some", ("like", NOW, ("last", ("not", ("not", ("not", ("not", AND))))))))
        self.refused(("some", ("like", NOW, ("last", ("not", ("not", ("not", ("not", ("none", NOW)))))))))

    def test_how_many(self):
        # The CONDITION, the TEST "and", and so many more.
        self.fine(("some", ("and", (AND,) * 28)))
        self.refused(("some", ("and", (AND,) * 29)))
        self.fine(("and", (("and", ()),) * 29))
        self.refused(("and", (("and", ()),) * 30))
        # A TEST with two REFS is three of them.
        self.fine(("some", ("or", (("like", NOW, NOW),) * 9 + (AND,))))
        self.refused(("some", ("or", (("like", NOW, NOW),) * 9 + (AND, AND))))
        self.fine(("some", ("or", (("like", NOW, ("last", AND)),) * 7)))
        self.refused(("some", ("or", (("like", NOW, ("last", AND)),) * 7 + (AND,))))
        self.refused(("some", ("and", (("and", (("and", (AND,) * 40),) * 40),) * 40)))

    def test_what_is_kept_by_form(self):
        for condition, many in (
                (("some", AND), 0), (("some", IS_A), 0), (("and", ()), 0), (("some", ("none", ("back", 1))), 1), (("some", ("none", ("back", 3))), 3),
                (("some", ("like", ("back", 1), ("back", 2))), 2), (("and", (("some", ("none", ("back", 3))), ("all", ("none", ("back", 2))))), 3),
                (("some", ("none", FIRST)), 1), (("some", ("like", FIRST, FIRST)), 1), (("some", ("like", FIRST, ("back", 2))), 3),
                (("some", ("none", ("last", AND))), 1), (("some", ("like", ("last", AND), ("last", AND))), 1),
                (("some", ("like", ("last", AND), ("last", OR))), 2), (("some", ("none", ("last", ("none", ("last", AND))))), 2),
                # It comes twice, once within another one.
                (("some", ("like", ("last", AND), ("last", ("none", ("last", AND))))), 2),
                (("some", ("none", ("last", ("like", FIRST, ("back", 2))))), 4),
                (("some", ("and", EIGHT_LASTS)), 8), (("some", ("and", EIGHT_KEPT)), 8)):
            self.assertEqual(kept_by_form(condition), many)
        self.fine(("some", ("and", EIGHT_LASTS)))
        self.refused(("some", ("and", (*EIGHT_LASTS, NINTH_LAST))))
        self.fine(("some", ("and", (*EIGHT_LASTS, EIGHT_LASTS[0]))))
        self.refused(("some", ("and", (*EIGHT_LASTS, ("none", FIRST)))))
        self.refused(("some", ("and", (*EIGHT_LASTS, ("none", ("back", 1))))))
        self.refused(("some", ("and", (*EIGHT_KEPT, NINTH_KEPT))))
        self.fine(("some", ("and", (*EIGHT_KEPT, ("none", ("last", OR)), ("none", ("back", 2))))))

    def test_words(self):
        for many in range(5):
            self.assertEqual(words_of_condition(("some", ("and", asks_words(many)))), tuple("abcd"[:many]))
        self.refused(("some", ("and", asks_words(5))))
        self.fine(("some", ("and", asks_words(4) * 3)))
        self.refused(("and", (("some", ("and", asks_words(4))), ("some", ("is", ("last", IS_A), "word")))))
        self.assertEqual(words_of_condition(("and", (("some", ("is", NOW, "z")), ("all", ("none", ("last", ("is", NOW, "b"))))))), ("b", "z"))

    def test_a_condition_is_due_ahead_of_a_list(self):
        for thing in [*wrong_things(), 1, "a", [1], (True,), ("",), (1,) * 1001]:
            with self.assertRaises(BadList) as caught:
                does_hold(("some", AND), thing)
            self.assertIs(caught.exception.given, thing)
            with self.assertRaises(BadCondition):
                does_hold(("some", NOW), thing)


class Compiled(unittest.TestCase):
    def check(self, condition, most):
        """The FLOW is one, and says what the CONDITION does of all PLAIN LISTS of so many items."""
        flow = need_flow(compile_condition(condition))
        words = words_of_condition(condition)
        self.assertEqual(flow[0], words)
        self.assertLessEqual(max(place[0] for place in flow[1]), kept_by_form(condition))
        for things in plain_lists(words, most):
            self.assertEqual(run_flow(flow, things), (
                ((),) * len(things), "yes" if does_hold(condition, things) else "no", ()), (condition, things))
        return flow

    def test_each_form(self):
        for test in (AND, OR, IS_A, ("like", NOW, ("back", 1)), ("like", NOW, ("back", 2)), ("like", NOW, ("back", 3)),
                     ("like", ("back", 1), ("back", 3)), ("like", NOW, FIRST), ("like", NOW, ("last", ("not", ("like", NOW, ("back", 1))))),
                     ("is", ("back", 2), "a"), ("is", FIRST, "a"), ("is", ("last", ("is", ("back", 1), "a")), "b"), ("none", ("back", 2)),
                     ("none", ("last", IS_A)), ("not", IS_A), ("once", ("like", NOW, ("back", 1))), ("ahead", ("like", NOW, FIRST)),
                     ("ahead", ("ahead", IS_A)), ("once", ("ahead", ("once", IS_A))), ("like", NOW, ("last", ("like", NOW, ("last", AND)))),
                     ("and", (IS_A, ("is", ("back", 1), "b"))), ("or", (IS_A, ("like", NOW, FIRST)))):
            for condition in (("some", test), ("all", test), ("end", test), ("least", 2, test), ("least", 4, test), ("rest", 2, 1, test),
                              ("rest", 4, 0, test), ("not", ("all", test)),
                              ("and", (("some", test), ("end", ("not", test)))), ("or", (("rest", 3, 2, test), ("end", test)))):
                self.check(condition, 5 if not words_of_condition(condition) else 4)

    def test_some_conditions(self):
        sizes = {}
        for seed in range(250):
            chance = random.Random(seed)
            condition = some_condition(chance, chance.randint(3, 6))
            try:
                need_condition(condition)
                flow = self.check(condition, 3)
            except (BadCondition, TooMany):
                continue
            sizes[min(len(flow[1]), 9)] = True
        self.assertTrue({1, 2, 3, 4, 5, 6, 9} <= set(sizes))

    def test_words_as_they_are(self):
        # Things that are words of it by their spelling alone.
        flow = compile_condition(("all", ("is", NOW, "a")))
        for things, verdict in (((), "yes"), (("a", "a"), "yes"), (("b",), "no"), (("A",), "no"), ((1,), "no")):
            self.assertEqual(run_flow(flow, things)[1], verdict)

    def test_what_never_hangs_on_the_list(self):
        for condition, verdict in ((("and", ()), "yes"), (("or", ()), "no"), (("not", ("and", ())), "no"), (("all", AND), "yes"),
                                   (("some", OR), "no")):
            flow = self.check(condition, 3)
            self.assertEqual(run_flow(flow, (1, 2))[1], verdict)

    def test_much_is_kept(self):
        # Eight THINGS by form, all kept as one may see at the end.
        for tests in (EIGHT_LASTS, EIGHT_KEPT):
            self.check(("end", ("or", tests)), 5)
        three = ("end", ("or", (("like", NOW, ("back", 3)), ("like", NOW, FIRST), ("like", NOW, ("last", ("like", NOW, ("back", 1)))))))
        self.check(three, 6)

    def test_too_many_places(self):
        def counts(many):
            return ("and", tuple(("rest", 4, 1, ("is", NOW, word)) for word in "abcd"[:many]))

        self.assertEqual(len(self.check(counts(4), 3)[1]), 256)
        self.assertEqual(len(self.check(("and", (counts(3), ("rest", 4, 1, AND))), 3)[1]), 256)
        for condition in (("and", (counts(4), ("rest", 2, 1, AND))), ("and", (counts(4), ("rest", 4, 1, ("like", NOW, ("back", 1)))))):
            need_condition(condition)
            with self.assertRaises(TooMany) as caught:
                compile_condition(condition)
            self.assertEqual(caught.exception.most, 300)
            self.assertIs(does_hold(condition, ("a", "b", "c")), False)

    def test_what_says_less_than_it_keeps(self):
        # By its form there are far more than 300 PLACES, but it says "yes" of all lists.
        kept = tuple(("some", test) for test in EIGHT_KEPT)
        flow = self.check(("or", (*kept, ("and", ()))), 4)
        self.assertEqual(len(flow[1]), 1)
        same = tuple(("rest", 4, at, ("like", ("back", 3), ("last", IS_A))) for at in range(4))
        self.assertEqual(len(self.check(("or", same), 4)[1]), 1)


class Helpers(unittest.TestCase):
    def test_the_tests_of_spots(self):
        for things in plain_lists(("a",), 5):
            for spot, test in ((0, AT_0), (1, AT_1), (3, AT_3)):
                self.assertEqual([x for x in range(len(things)) if is_so(test, things, x)], [spot][:len(things) > spot])


if __name__ == "__main__":
    unittest.main()
