"""[31] FILTERS and MADE."""

import copy
import random
import unittest

from onlyalike.errors import BadFilter, BadList, TooMany
from onlyalike.filters import make_filter, need_filter, sift_list
from onlyalike.flows import need_flow, run_flow
from asked import AND, EIGHT_KEPT, EIGHT_LASTS, NINTH_KEPT, NINTH_LAST, OR, asks_words, deep_test, sifted, some_filter
from made import Agrees, plain_lists, wrong_things

NOW, FIRST = ("now",), ("first",)
BACK, BACK_2, BACK_3 = ("back", 1), ("back", 2), ("back", 3)
A, B = ("word", "a"), ("word", "b")
IS_A = ("is", NOW, "a")
# The document's example: it leaves out what is like its neighbour ahead.
EXAMPLE = (((("not", ("like", ("now",), ("back", 1))), (("now",),)),), ())


def of_form(kept):
    """How many THINGS a FILTER keeps by its form."""
    backs, firsts, lasts = [0], [0], []

    def look(part):
        if part[:1] == ("back",):
            backs.append(part[1])
        elif part[:1] == ("first",):
            firsts.append(1)
        elif part[:1] == ("last",) and part not in lasts:
            lasts.append(part)
        for inner in part:
            if isinstance(inner, tuple):
                look(inner)

    look(kept)
    return max(backs) + max(firsts) + len(lasts)


class Filters(unittest.TestCase):
    def tells(self, sieve, things, rows, last=()):
        self.assertEqual(sift_list(sieve, things), (rows, "yes", last))
        self.assertEqual(run_flow(make_filter(sieve), things), (rows, "yes", last))

    def test_the_example_of_the_document(self):
        self.tells(EXAMPLE, (), ())
        self.tells(EXAMPLE, (1, 1, 2, 2, 2, 1), ((1,), (), (2,), (), (), (1,)))
        self.tells(EXAMPLE, ("a", "a", 1, "1"), (("a",), (), (1,), ("1",)))

    def test_what_is_told_of_each_ref(self):
        for ref, rows in ((NOW, ((5,), (6,), (7,), (8,))), (BACK, ((), (5,), (6,), (7,))), (BACK_2, ((), (), (5,), (6,))),
                          (BACK_3, ((), (), (), (5,))), (FIRST, ((5,), (5,), (5,), (5,))),
                          (("last", AND), ((), (5,), (6,), (7,))), (("last", ("ahead", AND)), ((), (), (6,), (7,))),
                          (("last", OR), ((), (), (), ()))):
            self.tells((((AND, (ref,)),), ()), (5, 6, 7, 8), rows)

    def test_what_tells_none_is_left_out(self):
        sieve = (((AND, (BACK, A, NOW)),), (BACK_2, B, BACK))
        self.tells(sieve, (), (), ("b",))
        self.tells(sieve, (4,), (("a", 4),), ("b", 4))
        self.tells(sieve, (4, 5), (("a", 4), (4, "a", 5)), (4, "b", 5))
        self.tells(sieve, ("b", "a"), (("a", "b"), ("b", "a", "a")), ("b", "b", "a"))

    def test_the_first_of_several_choices(self):
        sieve = ((IS_A, (A,)), (("like", NOW, BACK), (NOW, NOW)), (("like", NOW, FIRST), (B,)), (AND, ())), ()
        self.tells(sieve, ("a", "a", 1, 1), (("a",), ("a",), (), (1, 1)))
        self.tells(sieve, (7, 7, "a", 7, 8, 8), (("b",), (7, 7), ("a",), ("b",), (), (8, 8)))
        # None of the TESTS is so: nothing is told.
        self.tells((((OR, (NOW,)), (IS_A, (B,))), ()), (1, "a", 2), ((), ("b",), ()))
        self.tells((((IS_A, ()), (AND, (NOW,))), ()), (1, "a", 2), ((1,), (), (2,)))

    def test_the_last_row(self):
        last = (BACK, BACK_2, BACK_3)
        nothing = ((OR, ()),)
        for things, told in (((), ()), ((1,), (1,)), ((1, 2), (2, 1)), ((1, 2, 3), (3, 2, 1)), ((1, 2, 3, 4), (4, 3, 2))):
            self.tells((nothing, last), things, ((),) * len(things), told)
        self.tells((nothing, (FIRST, A, FIRST)), (), (), ("a",))
        self.tells((nothing, (FIRST, A, FIRST)), (7, 8), ((), ()), (7, "a", 7))
        self.tells((nothing, (FIRST,)), ("a", 8), ((), ()), ("a",))
        # ("now",) within a ("last", TEST): the last "a", at whatever SPOT; the last item that was like the one ahead.
        self.tells((nothing, (("last", IS_A),)), (1, "a"), ((), ()), ("a",))
        self.tells((nothing, (("last", IS_A),)), (1, "b"), ((), ()))
        self.tells((nothing, (("last", ("like", NOW, BACK)),)), (1, 2, 2, 3), ((),) * 4, (2,))
        self.tells((nothing, (("last", ("like", NOW, BACK)),)), (1, 2, 3, 3), ((),) * 4, (3,))
        self.tells((nothing, (("last", AND), ("last", ("not", IS_A)))), (4, "a"), ((), ()), ("a", 4))

    def test_as_the_document_defines_it(self):
        for seed in range(150):
            sieve = some_filter(random.Random(seed))
            try:
                need_filter(sieve)
            except BadFilter:
                continue
            for things in plain_lists(("a", "c"), 3) + [tuple(random.Random(at).choice(("a", "b", 0, 1, 2)) for _ in range(8))
                                                        for at in range(6)]:
                self.assertEqual(sift_list(sieve, things), sifted(sieve, things), sieve)

    def test_made_tells_the_same(self):
        refused = 0
        for seed in range(60):
            sieve = some_filter(random.Random(seed))
            try:
                flow = need_flow(make_filter(sieve))
            except (BadFilter, TooMany):
                refused += 1
                continue
            self.assertLessEqual(max(place[0] for place in flow[1]), of_form(sieve))
            for things in plain_lists(flow[0], 3):
                self.assertEqual(run_flow(flow, things), sift_list(sieve, things), sieve)
        self.assertLess(refused, 10)

    def test_made_over_longer_lists(self):
        for sieve in (EXAMPLE, (((("once", ("like", NOW, BACK_2)), (BACK_3, NOW)), (AND, (A, FIRST))), (BACK_2,)),
                      (((("like", NOW, ("last", ("not", ("like", NOW, BACK)))), (NOW, BACK)),), (("last", ("ahead", AND)), FIRST))):
            flow = need_flow(make_filter(sieve))
            for things in plain_lists(flow[0], 6):
                self.assertEqual(run_flow(flow, things), sift_list(sieve, things))

    def test_its_words(self):
        for sieve, words in ((EXAMPLE, ()), ((((IS_A, (B,)),), ()), ("a", "b")), ((((AND, ()),), (("word", "z"), A)), ("a", "z")),
                             ((((("none", ("last", ("is", BACK, "q"))), ()),), (A,)), ("a", "q")),
                             ((((AND, (("last", ("is", NOW, "one")),)),), (("last", ("is", NOW, "two")),)), ("one", "two"))):
            self.assertEqual(make_filter(sieve)[0], words)
            self.assertEqual(need_flow(make_filter(sieve))[0], words)

    def test_words_as_they_are(self):
        sieve = (((("like", NOW, BACK), (A,)), (IS_A, (NOW, BACK))), ())
        for things in plain_lists(("a", "b", 7), 4):
            self.assertEqual(run_flow(make_filter(sieve), things), sift_list(sieve, things))

    def test_long_lists(self):
        things = tuple(x // 3 % 5 for x in range(1000))
        rows, verdict, last = sift_list((((("once", ("like", NOW, ("last", ("like", NOW, BACK)))), (NOW,)),), (FIRST, BACK)), things)
        self.assertEqual((len(rows), verdict, last), (1000, "yes", (0, 3)))
        self.assertEqual(rows[:4], ((), (), (0,), (1,)))

    def test_too_many_places(self):
        # It tells three items of the last ones, the first one, and one more; each may be one of the WORDS.
        four = ((("or", asks_words(4)), (BACK_3, FIRST, ("last", ("not", ("like", NOW, BACK))))), (AND, (NOW,))), (BACK_2, BACK)
        need_filter(four)
        with self.assertRaises(TooMany) as caught:
            make_filter(four)
        self.assertEqual(caught.exception.most, 300)

    def test_nothing_is_changed_and_the_same_is_told(self):
        sieve = ((IS_A, (A, BACK)), (("like", NOW, FIRST), (NOW,))), (BACK_2,)
        same = copy.deepcopy(sieve)
        self.assertEqual(make_filter(sieve), make_filter(same))
        self.assertEqual(sift_list(sieve, (1, 2, 1)), sift_list(same, (1, 2, 1)))
        self.assertEqual(sieve, same)


class Forms(unittest.TestCase):
    def fine(self, sieve):
        self.assertIs(need_filter(sieve), sieve)
        sift_list(sieve, ("a", 1, 1, "b"))

    def refused(self, thing):
        for call in (need_filter, make_filter, lambda x: sift_list(x, None)):
            with self.assertRaises(BadFilter) as caught:
                call(thing)
            self.assertIs(caught.exception.given, thing)

    def test_what_is_no_filter(self):
        choice = (AND, (NOW,))
        for thing in [*wrong_things(), 1, "ab", (), ((choice,),), ((choice,), (), ()), [(choice,), ()], (choice, ()), ([choice], ()),
                      (None, ()), ((choice,), None), ((choice,), []), ((choice,), "a"), ((choice,), NOW), ((), ()), ((choice,) * 5, ()),
                      ((Agrees(),), ()), ((None,), ()), (((AND,),), ()), (((AND, (), ()),), ()), (([AND, ()],), ()), ((choice, None), ())]:
            self.refused(thing)
        for many in range(1, 5):
            self.fine(((choice,) * many, ()))

    def test_what_is_no_row(self):
        for part in [*wrong_things(), 1, "now", (), ("now", 1), ["now"], (Agrees(),), ("word",), ("word", "A"), ("word", ""), ("word", "abcdefg"),
                     ("word", 1), ("word", None), ("word", "a", "b"), ("word", Agrees()), ("back", 0), ("back", 4), ("back", True), ("back", "1"),
                     ("last",), ("last", NOW), ("last", None), AND, ("item",), ("first", 1)]:
            for row in ((part,), (NOW, part), (A, A, part)):
                self.refused((((AND, row),), ()))
                self.refused((((AND, ()), (OR, row)), ()))
            self.refused((((AND, ()),), (part,)))
            self.refused((((AND, ()),), (A, part)))
        for row in [*wrong_things(), 1, "now", NOW, [NOW], (NOW,) * 4, (A,) * 4]:
            self.refused((((AND, row),), ()))
            self.refused((((AND, ()),), row))
        for row in ((), (NOW,), (A,) * 3, (BACK, BACK_2, BACK_3), (FIRST, A, ("last", IS_A))):
            self.fine((((AND, row),), ()))

    def test_what_is_no_test(self):
        for test in [*wrong_things(), 1, NOW, A, ("some", AND), ("like", NOW), ("is", NOW, "A"), ("and", (NOW,)), ("not", ()), (Agrees(), AND)]:
            self.refused((((test, ()),), ()))
            self.refused((((AND, ()), (test, ())), ()))
            self.refused((((AND, (("last", test),)),), ()))
            self.refused((((AND, ()),), (("last", test),)))

    def test_now_in_the_last_row(self):
        for row in ((NOW,), (BACK, NOW), (NOW, A), (A, FIRST, NOW)):
            self.refused((((AND, ()),), row))
        for row in ((("last", IS_A),), (("last", ("like", NOW, BACK)), BACK), (("last", ("none", ("last", ("like", NOW, NOW)))),)):
            self.fine((((AND, ()),), row))

    def test_how_deep(self):
        self.fine((((deep_test(8), ()),), ()))
        self.refused((((deep_test(9), ()),), ()))
        for last in (False, True):
            for test, is_fine in ((deep_test(7), True), (deep_test(8), False)):
                row = (("last", test),)
                sieve = (((AND, ()),), row) if last else (((AND, row),), ())
                if is_fine:
                    self.fine(sieve)
                else:
                    self.refused(sieve)

    def test_how_many(self):
        def of(tests, refs, last):
            return (((("and", (AND,) * (tests - 1)), (NOW,) * refs),), (FIRST,) * last)

        self.fine(of(60, 0, 0))
        self.refused(of(61, 0, 0))
        self.fine(of(55, 3, 2))
        for many in ((56, 3, 2), (55, 3, 3), (60, 1, 0), (60, 0, 1)):
            self.refused(of(*many))
        # What tells a WORD is neither a TEST nor a REF.
        self.fine((((("and", (AND,) * 59), (A, A, B)),), (A, B, B)))
        # Sixteen in each of CHOICES, and twelve in LAST.
        choice = (deep_test(8), (("last", deep_test(7)),))
        self.fine(((choice,) * 3, (("last", deep_test(7)), ("last", ("not", AND)), FIRST)))
        self.refused(((choice,) * 3, (("last", deep_test(7)), ("last", ("not", AND)), ("last", AND))))

    def test_what_it_keeps_by_its_form(self):
        def of(*tests):
            return ((("or", tests), ()),), ()

        self.fine(of(*EIGHT_LASTS))
        self.fine(of(*EIGHT_KEPT))
        self.refused(of(*EIGHT_LASTS, NINTH_LAST))
        self.refused(of(*EIGHT_KEPT, NINTH_KEPT))
        # In all TESTS and rows together, the unlike ones.
        inner = EIGHT_LASTS[0][1]
        self.fine((((("or", EIGHT_LASTS), (inner,)),), (inner, inner)))
        for row, last in (((FIRST,), ()), ((BACK,), ()), ((), (FIRST,)), ((), (BACK,)), ((NINTH_LAST[1],), ()), ((), (NINTH_LAST[1],))):
            self.refused((((("or", EIGHT_LASTS), row),), last))
        self.fine((((("none", BACK_3), (BACK,)), (("none", FIRST), (("last", AND), ("last", OR)))), (("last", ("not", AND)), ("last", ("not", OR)))))
        self.refused((((("none", BACK_3), (BACK,)), (("none", FIRST), (("last", AND), ("last", OR)))),
                      (("last", ("not", AND)), ("last", ("not", OR)), ("last", ("once", AND)))))

    def test_words(self):
        four = asks_words(4)
        self.fine((((("or", four), (A, B)),), (("word", "d"),)))
        self.refused((((("or", asks_words(5)), ()),), ()))
        for row, last in (((("word", "e"),), ()), ((), (("word", "e"),)), ((("last", ("is", NOW, "e")),), ()), ((), (("last", ("is", NOW, "e")),))):
            self.refused((((("or", four), row),), last))
        self.refused((((AND, (A, B, ("word", "c"))), (AND, (("word", "d"), ("word", "e")))), ()))

    def test_a_filter_is_due_ahead_of_a_list(self):
        for thing in [*wrong_things(), 1, "a", [1], (True,), ("",), (1,) * 1001]:
            with self.assertRaises(BadList) as caught:
                sift_list(EXAMPLE, thing)
            self.assertIs(caught.exception.given, thing)
            with self.assertRaises(BadFilter):
                sift_list((), thing)


if __name__ == "__main__":
    unittest.main()
