"""[48] CLAIMS and the JUDGE."""

import copy
import unittest

from onlyalike.alike import alike_paper
from onlyalike.errors import BadClaim, BadPaper, TooMany
from onlyalike.judge import judged
from onlyalike.keeppapers import need_paper
from onlyalike.losses import loss_paper
from onlyalike.needed import need_of
from onlyalike.within import within_paper
from made import (
    FIRST_TWO, NEIGHBOUR, NEIGHBOUR_TOO, Agrees, ask, end, go, machine_pairs, one_state, wide_machine, wrong_things,
)

SILENT = one_state(go())
ECHO = one_state(go((("item",),)))
# Says "yes" to nothing but the empty list.
NEVER = ((), (), (("s", go((), (), "t"), end()), ("t", go((), (), "t"), end("no"))))


class Judge(unittest.TestCase):
    def refused(self, kind, claim, paper, told):
        with self.assertRaises(kind) as caught:
            judged(claim, paper)
        if kind is BadClaim:
            self.assertIs(caught.exception.given, told)
        else:
            self.assertEqual(caught.exception.part, told)

    def test_alike(self):
        for one, other, wanted in ((NEIGHBOUR, NEIGHBOUR_TOO, True), (NEIGHBOUR, NEIGHBOUR, True), (NEIGHBOUR, SILENT, False)):
            self.assertIs(judged(("alike", one, other), alike_paper(one, other)), wanted)
        self.assertIs(judged(("alike", NEIGHBOUR, SILENT), ("parted", (0, 1, 1))), False)
        self.refused(BadPaper, ("alike", NEIGHBOUR, SILENT), ("parted", (0, 1)), "parted")
        self.refused(BadPaper, ("alike", NEIGHBOUR, NEIGHBOUR_TOO), ("parted", (0, 0)), "parted")
        self.refused(BadPaper, ("alike", NEIGHBOUR, SILENT), ("alike", ((0, 0, ()),)), "alike")
        self.refused(BadPaper, ("alike", NEIGHBOUR, SILENT), ("within", ((0, 0, ()),)), "form")

    def test_within(self):
        for one, other, wanted in ((NEVER, SILENT, True), (SILENT, NEVER, False), (NEVER, NEVER, True)):
            self.assertIs(judged(("within", one, other), within_paper(one, other)), wanted)
        self.refused(BadPaper, ("within", NEVER, SILENT), ("escaped", (0,)), "escaped")
        self.refused(BadPaper, ("within", SILENT, NEVER), ("within", ((0, 0, ()),)), "within")
        self.refused(BadPaper, ("within", SILENT, NEVER), alike_paper(SILENT, NEVER), "form")

    def test_need(self):
        for machine in (SILENT, NEIGHBOUR, FIRST_TWO):
            need, paper = need_of(machine), need_paper(machine)
            for many in range(9):
                if many <= need:
                    self.assertIs(judged(("need", machine, many), paper), True)
                else:
                    self.refused(BadPaper, ("need", machine, many), paper, "row")
        _, items, rows = need_paper(FIRST_TWO)
        for at in range(2):
            for many, told in ((0, True), (1, True), (2, "row")):
                fewer = ("need", items, rows[:at] + rows[at + 1:])
                if told is True:
                    self.assertIs(judged(("need", FIRST_TWO, many), fewer), True)
                else:
                    self.refused(BadPaper, ("need", FIRST_TWO, many), fewer, told)
        self.assertIs(judged(("need", SILENT, 0), ("need", (), ())), True)
        self.refused(BadPaper, ("need", SILENT, 0), ("need", (0,), ((0, 1, (0,)),)), "row")
        self.refused(BadPaper, ("need", SILENT, 0), ("need", ()), "form")

    def test_kept(self):
        for machine, in_sum, wanted in ((ECHO, False, True), (ECHO, True, True), (SILENT, False, False), (SILENT, True, False)):
            self.assertIs(judged(("kept", machine, in_sum), loss_paper(machine, in_sum)), wanted)
        self.refused(BadPaper, ("kept", ECHO, True), loss_paper(ECHO, False), "kept")
        self.refused(BadPaper, ("kept", ECHO, True), ("lost", (), (0,)), "lost")
        self.refused(BadPaper, ("kept", ECHO, True), None, "form")

    def test_papers_that_the_program_tells(self):
        told = {}
        for one, other in machine_pairs(481, 60):
            for claim, paper, truth in (
                    (("alike", one, other), alike_paper(one, other), "alike"), (("within", one, other), within_paper(one, other), "within"),
                    (("kept", one, False), loss_paper(one, False), "kept"), (("kept", one, True), loss_paper(one, True), "kept")):
                self.assertIs(judged(claim, paper), paper[0] == truth)
                told[claim[0], paper[0]] = True
                # It shows nothing of another claim.
                for word in ("alike", "within", "kept"):
                    if word != claim[0] and truth != word:
                        with self.assertRaises(BadPaper):
                            judged((word, one, True if word == "kept" else other), paper)
        self.assertEqual(len(told), 6)

    def test_what_is_no_claim(self):
        bad = ((), (), (("on", go(), go()),))
        for thing in [*wrong_things(), 1, "alike", (), ("alike",), ("alike", SILENT), ("alike", SILENT, SILENT, SILENT),
                      ["alike", SILENT, SILENT], ("Alike", SILENT, SILENT), (None, SILENT, SILENT), (Agrees(), SILENT, SILENT),
                      ("parted", SILENT, SILENT), ("lost", SILENT, True), ("keep", SILENT, True)]:
            for paper in (None, alike_paper(SILENT, SILENT)):
                self.refused(BadClaim, thing, paper, thing)
        for thing in [*wrong_things(), 1, 9, -1, "a", (), bad, Agrees()]:
            claims = [("alike", thing, SILENT), ("within", thing, SILENT), ("need", thing, 1), ("kept", thing, True),
                      ("alike", SILENT, thing), ("within", SILENT, thing)]
            if thing not in (1, True) or isinstance(thing, (bool, Agrees)):
                claims.append(("need", SILENT, thing))
            if not isinstance(thing, bool):
                claims.append(("kept", SILENT, thing))
            for claim in claims:
                self.refused(BadClaim, claim, None, claim)
        for claim in (("kept", SILENT, 0), ("kept", SILENT, 1), ("need", SILENT, 9), ("need", SILENT, "1"), ("need", SILENT, False)):
            self.refused(BadClaim, claim, loss_paper(SILENT, True), claim)

    def test_then_the_errors_of_the_checks(self):
        wide = wide_machine(76, False)
        for claim, paper in ((("alike", wide, NEIGHBOUR), ("alike", ((0, 0, ()),))), (("within", wide, wide), ("within", ())),
                             (("kept", wide, False), ("kept", ()))):
            with self.assertRaises(TooMany) as caught:
                judged(claim, paper)
            self.assertEqual(caught.exception.most, 300)
            for thing in wrong_things():
                self.refused(BadPaper, claim, thing, "form")
        # Only BEHAVIOURS are looked at.
        self.assertIs(judged(("need", wide, 0), ("need", (), ())), True)
        self.assertIs(judged(("kept", wide, False), ("lost", (0,), (1,))), False)

    def test_nothing_is_changed(self):
        told = []
        tree = ask(("item", "x"), go((("item",),)), go((), (("keep", "x"),)))
        claim, paper = ("kept", one_state(tree, None, (), ("x",)), True), ("lost", (), (0,))
        kept = copy.deepcopy((claim, paper))
        for _ in range(2):
            told.append(judged(claim, paper))
        self.assertEqual((told, (claim, paper)), ([False, False], kept))


if __name__ == "__main__":
    unittest.main()
