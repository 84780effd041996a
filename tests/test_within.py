"""[13] WITHIN, an ESCAPE, and PAPERS on this."""

import copy
import unittest

from onlyalike.errors import BadMachine, BadPaper, TooMany
from onlyalike.machines import behaviour_for
from onlyalike.things import is_plain_list
from onlyalike.within import check_within, escape_of, is_within, within_paper
from made import (
    NEIGHBOUR, NEIGHBOUR_TOO, Agrees, ask, end, go, machine_pairs, one_state, plain_lists, ring_machine, wide_machine,
    wrong_things,
)

ALL = one_state(go())
NONE = one_state(go(), end("no"))


def repeats(row):
    """Says "yes" once an item was like the one ahead."""
    return ((), ("x",), (
        ("on", ask(("item", "x"), go(row, (), "done"), go((), (("keep", "x"),), "on")), end("no")),
        ("done", go(row, (), "done"), end("yes"))))


# Says "yes" once an item was like any of the two ahead.
NEAR = ((), ("x", "y"), (
    ("on", ask(("item", "x"), go((), (), "done"), ask(("item", "y"), go((), (), "done"), go(
        (), (("keep", "x"), ("copy", "x", "y")), "on"))), end("no")),
    ("done", go((), (), "done"), end("yes", (("box", "x"),)))))


def says(machine, things):
    return behaviour_for(machine, things)[1]


class Within(unittest.TestCase):
    def escaped(self, one, other, many):
        """The ESCAPE, having so many items, is one, and no shorter list is."""
        words = tuple(sorted({*one[0], *other[0]}))
        way = escape_of(one, other)
        self.assertIs(is_within(one, other), False)
        self.assertEqual(len(way), many)
        self.assertTrue(is_plain_list(words, way))
        self.assertEqual((says(one, way), says(other, way)), ("yes", "no"))
        for things in plain_lists(words, many - 1) if many else ():
            self.assertNotEqual((says(one, things), says(other, things)), ("yes", "no"))

    def within(self, one, other):
        self.assertIs(is_within(one, other), True)
        self.assertIs(escape_of(one, other), None)

    def test_one_within_the_other_but_not_the_other_way_round(self):
        self.within(repeats(()), NEAR)
        self.escaped(NEAR, repeats(()), 3)
        self.assertEqual(escape_of(NEAR, repeats(())), (0, 1, 0))
        self.within(NONE, ALL)
        self.escaped(ALL, NONE, 0)
        self.assertEqual(escape_of(ALL, NONE), ())
        self.within(repeats(()), ALL)
        self.escaped(ALL, repeats(()), 0)
        self.within(NONE, NEAR)
        self.escaped(NEAR, NONE, 2)

    def test_within_each_other(self):
        for one, other in ((NEIGHBOUR, NEIGHBOUR_TOO), (NEIGHBOUR, ALL), (NONE, NONE), (repeats(()), repeats((("item",),)))):
            self.within(one, other)
            self.within(other, one)

    def test_rows_do_not_matter(self):
        self.within(one_state(go((("item",),)), end("yes", (("word", "w"),)), ("w",)), ALL)
        self.within(ALL, one_state(go((("item",),)), end("yes", (("word", "w"),)), ("w",)))

    def test_a_word_of_the_one_alone(self):
        wants = ((("w",), (), (("on", ask(("word", "w"), go((), (), "on"), go((), (), "off")), end()),
                               ("off", go((), (), "off"), end("no")))))
        self.within(wants, ALL)
        self.escaped(ALL, wants, 1)
        self.assertEqual(escape_of(ALL, wants), (0,))
        avoids = (("w",), (), (("on", ask(("word", "w"), go((), (), "off"), go((), (), "on")), end()),
                               ("off", go((), (), "off"), end("no"))))
        self.assertEqual(escape_of(wants, avoids), ("w",))
        self.assertEqual(escape_of(avoids, wants), (0,))

    def test_a_long_escape(self):
        one = ring_machine(37, "w", ("w",), tuple(range(36)))
        other = ring_machine(41, "w", ("w",), (40,))
        self.assertEqual(escape_of(one, other), ("w",) * (37 * 41 - 1))
        paper = within_paper(one, other)
        self.assertEqual(check_within(one, other, paper), "escaped")

    def test_pairs_of_small_machines(self):
        lengths = {}
        for one, other in machine_pairs(4, 300):
            for first, second in ((one, other), (other, one)):
                words = tuple(sorted({*one[0], *other[0]}))
                escape = escape_of(first, second)
                if escape is None:
                    self.within(first, second)
                    for things in plain_lists(words, 3):
                        self.assertNotEqual((says(first, things), says(second, things)), ("yes", "no"))
                elif len(escape) <= 4:
                    self.escaped(first, second, len(escape))
                lengths[None if escape is None else len(escape)] = True
        self.assertTrue({None, 0, 1, 2} <= set(lengths))

    def test_refusals(self):
        for call in (is_within, escape_of, within_paper):
            for thing in wrong_things():
                with self.assertRaises(BadMachine) as caught:
                    call(thing, ((), None, None))
                self.assertEqual(caught.exception.place, ())
                with self.assertRaises(BadMachine) as caught:
                    call(wide_machine(76, False), (thing, (), ()))
                self.assertEqual(caught.exception.place, (0,))
            for pair in ((wide_machine(76, False), ALL), (ALL, wide_machine(76, False))):
                with self.assertRaises(TooMany) as caught:
                    call(*pair)
                self.assertEqual(caught.exception.most, 300)

    def test_too_many_joints(self):
        # Both count, the one how often "a" came, the other one "b", modulo 75 and 80, and each keeps one item
        # or not: by lists that are no ESCAPE one comes to 150 * 160 JOINTS.
        one, other = self.counts("a", 75), self.counts("b", 80)
        for call in (is_within, escape_of, within_paper):
            with self.assertRaises(TooMany) as caught:
                call(one, other)
            self.assertEqual(caught.exception.most, 20000)
            call(one, self.counts("b", 60))

    @staticmethod
    def counts(word, many):
        names = ["s" + "abcdefghij"[at // 10] + "abcdefghij"[at % 10] for at in range(many)]
        states = []
        for at, name in enumerate(names):
            on = names[(at + 1) % many]
            turn = ask(("empty", "x"), go((), (("keep", "x"),), on), go((), (("empty", "x"),), on)) if at == 0 else go((), (), on)
            states.append((name, ask(("word", word), turn, go((), (), name)), end()))
        return ("a", "b"), ("x",), tuple(states)

    def test_nothing_is_changed_and_the_same_is_told(self):
        one, other = copy.deepcopy(NEAR), copy.deepcopy(ALL)
        for call in (is_within, escape_of, within_paper):
            self.assertEqual(call(one, other), call(one, other))
            self.assertEqual(call(other, one), call(other, one))
        self.assertEqual((one, other), (NEAR, ALL))


class Papers(unittest.TestCase):
    def refused(self, part, paper, one=NEIGHBOUR, other=NEIGHBOUR_TOO):
        with self.assertRaises(BadPaper) as caught:
            check_within(one, other, paper)
        self.assertEqual(caught.exception.part, part, repr(paper)[:200])

    def test_papers_that_are_told_hold(self):
        for one, other in [(NEIGHBOUR, NEIGHBOUR_TOO), (repeats(()), NEAR), (NEAR, repeats(()))] + machine_pairs(6, 80):
            paper = within_paper(one, other)
            self.assertEqual(paper[0], "within" if is_within(one, other) else "escaped")
            self.assertEqual(check_within(one, other, paper), paper[0])
            if paper[0] == "escaped":
                self.assertEqual(len(paper[1]), len(escape_of(one, other)))

    def test_a_closed_lot_by_hand(self):
        # NEIGHBOUR without its WORD, side by side with itself: places without and with a thing.
        one = one_state(ask(("item", "x"), go((("item",),)), go((), (("keep", "x"),))), None, (), ("x",))
        lot = ((0, 0, ()), (1, 1, ((0, 0),)))
        self.assertEqual(within_paper(one, one), ("within", lot))
        self.assertEqual(check_within(one, one, ("within", lot)), "within")
        more = ((0, 0, ()), (1, 1, ()), (1, 1, ((0, 0),)))
        self.assertEqual(check_within(one, one, ("within", more)), "within")
        for joints in ((), lot[:1], lot[1:], ((0, 0, ()), (1, 1, ())), (*lot, (2, 0, ())), (*lot, (1, 1, ((0, 1),))),
                       ((0, 0, ()), (0, 0, ((0, 0),)), lot[1]), ((0, 0, ()), (0, 2, ()), lot[1])):
            self.refused("within", ("within", joints), one, one)

    def test_a_joint_that_is_not_good(self):
        self.refused("within", ("within", ((0, 0, ()),)), ALL, NONE)
        self.assertEqual(check_within(NONE, ALL, ("within", ((0, 0, ()),))), "within")
        self.assertEqual(check_within(ALL, one_state(go((("item",),))), ("within", ((0, 0, ()),))), "within")

    def test_lists_that_escape_and_such_as_do_not(self):
        one = repeats(())
        for things in (("x", "y", "x"), (0, 1, 0), (0, 1, 0, 5, 6), (1, "1", 1)):
            self.assertEqual(check_within(NEAR, one, ("escaped", things)), "escaped")
        for things in ((), (0,), (0, 0), (0, 1, 2), (0, 1, 0, 0), tuple(range(25000))):
            self.refused("escaped", ("escaped", things), NEAR, one)
        self.refused("escaped", ("escaped", (0, 1, 0)), one, NEAR)

    def test_what_has_no_form(self):
        good = (0, 0, ())
        for paper in [*wrong_things(), 1, "within", (), ("within",), ("within", (good,), ()), ["within", (good,)],
                      ("Within", (good,)), (Agrees(), (good,)), ("alike", (good,)), ("parted", (0,)), ("within", [good]),
                      ("within", None), ("escaped", None), ("escaped", "ab"), ("escaped", [1]), ("escaped", (True,)),
                      ("escaped", ("",)), ("escaped", (0,) * 25001), ("within", (good, good)), ("within", ((1, 0, ()), good)),
                      ("within", ((0, 300, ()),)), ("within", ((0, True, ()),)), ("within", ((0, 0, ((0, 16),)),)),
                      ("within", ((0, 0, ((0, 0), (1, 0))),)), ("within", ((0, 0, ((1, 0), (0, 1))),)),
                      ("within", tuple((at // 300, at % 300, ()) for at in range(20001)))]:
            self.refused("form", paper)
            self.refused("form", paper, ALL, NONE)
        self.refused("within", ("within", tuple((at // 300, at % 300, ()) for at in range(20000))))

    def test_a_bad_machine_is_due_first(self):
        for thing in wrong_things():
            for one, other, place in ((thing, ((), None, None), ()), (thing, ALL, ()), (ALL, thing, ()),
                                      (((), thing, None), None, (1,))):
                with self.assertRaises(BadMachine) as caught:
                    check_within(one, other, None)
                self.assertEqual(caught.exception.place, place)

    def test_too_many_places_behind_the_form_and_not_for_a_list(self):
        wide = wide_machine(76, False)
        for one, other in ((wide, NONE), (ALL, wide)):
            self.refused("form", ("within", None), one, other)
            with self.assertRaises(TooMany) as caught:
                check_within(one, other, ("within", ()))
            self.assertEqual(caught.exception.most, 300)
        self.assertEqual(check_within(wide, NONE, ("escaped", ())), "escaped")
        self.refused("escaped", ("escaped", (1, 2)), ALL, wide)


if __name__ == "__main__":
    unittest.main()
