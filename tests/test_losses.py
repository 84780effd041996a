"""[41] RECORDS and LOSSES, [42] what they hang on, [43] STANDINGS of two copies, and PAPERS on whether a MACHINE KEEPS ALL."""

import copy
import random
import unittest

from onlyalike.alike import are_alike
from onlyalike.errors import BadMachine, BadNumber, BadPaper, TooMany
from onlyalike.flows import flow_of
from onlyalike.losses import check_loss, does_keep, loss_of, loss_paper
from onlyalike.machines import behaviour_for
from onlyalike.things import is_plain_list
from made import (
    FIRST_TWO, NEIGHBOUR, Agrees, ask, end, go, machine_pairs, one_state, plain_lists, read, ring_machine, small_machine,
    summed, wide_machine, wrong_things,
)

SILENT = one_state(go())
ECHO = one_state(go((("item",),)))
# Tells each item one item later, and the last one at the end.
LATER = one_state(go((("box", "x"),), (("keep", "x"),)), end("yes", (("box", "x"),)), (), ("x",))
# The same without the last one.
LATE_LOST = one_state(go((("box", "x"),), (("keep", "x"),)), None, (), ("x",))
TWICE = one_state(go((("item",), ("item",))))
# Tells at each item whether it is like the one ahead, and all else; IN SUM no one can tell which is which.
BY_MOMENTS = one_state(ask(("item", "x"), go(), go((("item",),), (("keep", "x"),))), None, (), ("x",))
# Tells each item, but "b" as "a".
SAME_WORDS = one_state(ask(("word", "b"), go((("word", "a"),)), go((("item",),))), None, ("a", "b"))
# Tells all but the last item.
BUT_LAST = LATE_LOST
# Tells each item but "w"; at the end "w" if the last item was one.
OPEN = (("w",), (), (
    ("s", ask(("word", "w"), go((), (), "t"), go((("item",),), (), "s")), end()),
    ("t", ask(("word", "w"), go((("word", "w"),), (), "t"), go((("word", "w"), ("item",)), (), "s")), end("yes", (("word", "w"),)))))
# Tells nothing of the first item at first, but at the end.
FIRST_AT_END = ((), ("x",), (
    ("s", go((), (("keep", "x"),), "t"), end("no")), ("t", go((("item",),), (), "t"), end("yes", (("box", "x"),)))))
SOME = (SILENT, ECHO, LATER, LATE_LOST, TWICE, BY_MOMENTS, SAME_WORDS, OPEN, FIRST_AT_END, NEIGHBOUR, FIRST_TWO)


def record(machine, items, in_sum):
    return summed(behaviour_for(machine, items)) if in_sum else behaviour_for(machine, items)


def pairs_of_lists(words, most):
    """All pairs of lists, up to names in both, that have so many items together at most."""
    for items in plain_lists(words, most):
        for at in range(len(items) + 1):
            yield items[:at], items[at:]


def is_loss(machine, one, other, in_sum):
    return one != other and record(machine, one, in_sum) == record(machine, other, in_sum)


def least_loss(machine, in_sum, most):
    """How many items together a LOSS has at least, or None if none has so few."""
    sizes = [len(one) + len(other) for one, other in pairs_of_lists(machine[0], most) if is_loss(machine, one, other, in_sum)]
    return min(sizes, default=None)


class Side:
    """One of both copies on the way through a list."""

    def __init__(self, flow, items, at):
        self.flow = flow
        self.items = items
        self.at = at
        self.place, self.held = read(flow, 0, [], items[:at])[1:]
        self.told = []

    def step(self):
        if self.at == len(self.items):
            verdict, row = self.flow[1][self.place][2]
            self.told += [x if isinstance(x, str) else self.held[x] for x in row]
            self.place, self.held = {"yes": -1, "no": -2}[verdict], []
        else:
            told, self.place, self.held = read(self.flow, self.place, self.held, [self.items[self.at]])
            self.told += told
            self.at += 1


def standing_of(words, one, other):
    """The STANDING of two copies, or None if they have told unlike things."""
    many = min(len(one.told), len(other.told))
    if one.told[:many] != other.told[:many]:
        return None
    ahead = one.told[many:] + other.told[many:]
    names = []
    for x in [*one.held, *other.held, *ahead]:
        if x not in words and x not in names:
            names.append(x)
    row = tuple(-1 - words.index(x) if x in words else names.index(x) for x in ahead)
    held = tuple(tuple(names.index(x) for x in side.held) for side in (one, other))
    return one.place, other.place, held, (int(len(other.told) > many), row)


def standings_on_the_way(flow, ones, others, in_sum):
    """The STANDINGS that come on the way through two lists, by the document's words."""
    common = 0
    while common < min(len(ones), len(others)) and ones[common] == others[common]:
        common += 1
    if common == len(others) or (common == len(ones) and not in_sum):
        return
    one, other = Side(flow, ones, common), Side(flow, others, common)
    sides = [one, other]
    while sides:
        for side in sides:
            side.step()
        standing = standing_of(flow[0], one, other)
        if standing is None or (standing[3][1] and not in_sum):
            return
        yield standing
        if in_sum:
            who, row = standing[3]
            side = (one if who else other) if row else (other if one.place < 0 else one)
            sides = [side] if side.place >= 0 else []
        else:
            # Both come to an item, or both to the end.
            sides = [one, other] if one.place >= 0 and (one.at == len(ones)) == (other.at == len(others)) else []


def all_standings(machine, in_sum, most):
    """The STANDINGS that come on the way through two lists that have so many items together at most."""
    flow = flow_of(machine)
    out = {}
    for ones, others in pairs_of_lists(machine[0], most):
        for standing in standings_on_the_way(flow, ones, others, in_sum):
            out[standing] = True
    return out


class Losses(unittest.TestCase):
    def loses(self, machine, in_sum, many):
        found = loss_of(machine, in_sum)
        self.assertIs(does_keep(machine, in_sum), many is None)
        if many is None:
            self.assertIsNone(found)
            return
        one, other = found
        self.assertTrue(is_loss(machine, one, other, in_sum), (machine, found))
        self.assertEqual(len(one) + len(other), many)
        self.assertTrue(is_plain_list(machine[0], one + other))

    def test_by_hand(self):
        for machine, by_moments, in_sum in (
                (SILENT, 2, 1), (ECHO, None, None), (LATER, None, None), (LATE_LOST, 2, 1), (TWICE, None, None),
                (BY_MOMENTS, None, 3), (SAME_WORDS, 2, 2), (OPEN, None, None), (FIRST_AT_END, None, None),
                (NEIGHBOUR, 2, 1), (FIRST_TWO, 6, 5)):
            self.loses(machine, False, by_moments)
            self.loses(machine, True, in_sum)

    def test_a_loss_in_which_just_one_ends(self):
        one, other = loss_of(BY_MOMENTS, True)
        self.assertEqual(sorted((one, other), key=len), [(0,), (0, 0)])
        self.assertEqual(loss_of(SILENT, True)[0], ())
        # By moments both lists have as many items.
        for machine in SOME:
            found = loss_of(machine, False)
            self.assertTrue(found is None or len(found[0]) == len(found[1]))

    def test_numbers_by_first_coming_through_both(self):
        self.assertEqual(loss_of(SILENT, False), ((0,), (1,)))
        one, other = loss_of(FIRST_TWO, False)
        self.assertEqual((one, other), ((0, 1, 2), (0, 1, 3)))

    def test_what_is_not_told_of_the_first_item_alone(self):
        # One that tells an item late loses nothing, and one that tells it twice neither; the VERDICT tells, too.
        odd = (("w",), (), tuple((name, ask(("word", "w"), go((), (), then), go((("item",),), (), then)), end(verdict))
                                 for name, then, verdict in (("s", "t", "yes"), ("t", "s", "no"))))
        self.loses(odd, False, None)
        self.loses(odd, True, 2)
        even = (("w",), (), (("s", ask(("word", "w"), go((), (), "t"), go((("item",),), (), "s")), end("yes")),
                             ("t", go((), (), "u"), end("no")), ("u", go((), (), "u"), end("no"))))
        self.loses(even, False, 4)
        self.loses(even, True, 3)

    def test_against_all_pairs(self):
        chance = random.Random(411)
        told = {}
        for machine in [*SOME] + [small_machine(chance) for _ in range(80)]:
            most = 4 if machine[0] else 5
            for in_sum in (False, True):
                wanted = least_loss(machine, in_sum, most)
                found = loss_of(machine, in_sum)
                self.assertEqual(loss_of(machine, in_sum), found)
                self.assertIs(does_keep(machine, in_sum), found is None)
                if found is None:
                    self.assertIsNone(wanted)
                else:
                    self.assertTrue(is_loss(machine, *found, in_sum))
                    many = len(found[0]) + len(found[1])
                    self.assertEqual(many if many <= most else None, wanted)
                    self.assertTrue(is_plain_list(machine[0], sum(found, ())))
                told[in_sum, wanted] = True
        self.assertTrue({(False, None), (True, None), (False, 2), (False, 4), (True, 1), (True, 2), (True, 3)} <= set(told), told)

    def test_facts(self):
        told = {}
        for one, other in machine_pairs(421, 200):
            keeps = does_keep(one, False), does_keep(one, True)
            self.assertTrue(keeps[0] or not keeps[1])
            if are_alike(one, other):
                self.assertEqual(does_keep(other, False), keeps[0])
                self.assertEqual(does_keep(other, True), keeps[1])
            told[keeps] = True
        self.assertEqual(set(told), {(False, False), (True, False), (True, True)})

    def test_the_least_of_several_losses(self):
        # They part at once by "v" and "w", and are the same again behind three items; by one item more they part there,
        # and are so at once.
        def tells_all(name, then):
            return name, go((("item",),), (), then), end("yes" if name[0] == "p" else "no")

        machine = (("v", "w"), (), (
            ("s", ask(("word", "v"), go((), (), "pa"), ask(("word", "w"), go((), (), "qa"), go((("item",),), (), "t"))), end()),
            ("t", ask(("word", "v"), go((), (), "z"), ask(("word", "w"), go((), (), "z"), go((("item",),), (), "z"))), end()),
            tells_all("pa", "pb"), tells_all("pb", "pc"), tells_all("pc", "z"), tells_all("qa", "qb"), tells_all("qb", "qc"),
            tells_all("qc", "z"), tells_all("z", "z")))
        self.loses(machine, False, 4)
        self.assertEqual({items[1:] for items in loss_of(machine, False)}, {("v",), ("w",)})
        # Without that one the other is the least one.
        words, boxes, (s, _, *rest) = machine
        other = (words, boxes, (s, ("t", go((("item",),), (), "t"), end()), *rest))
        self.loses(other, False, 8)

    def test_deep_losses(self):
        # Only behind as many "w" an item is told no more.
        ring = ring_machine(40, "w", ("w",))
        states = [(name, ask(("word", "w"), go((("word", "w"),), (), item[2][3]),
                             go(() if at == 39 else (("item",),), (), name)), ending)
                  for at, (name, item, ending) in enumerate(ring[2])]
        deep = (("w",), (), tuple(states))
        self.loses(deep, True, 79)
        one, other = loss_of(deep, False)
        self.assertEqual(sorted(map(len, (one, other))), [40, 40])
        self.assertTrue(is_loss(deep, one, other, False))

    def test_wrong_arguments(self):
        wide = wide_machine(76, False)
        for call in (loss_of, does_keep, loss_paper, lambda *rest: check_loss(*rest, None)):
            for thing in [*wrong_things(), 0, 1, "a", ()]:
                with self.assertRaises(BadMachine) as caught:
                    call(thing, thing)
                self.assertEqual(caught.exception.place, ())
                if not isinstance(thing, bool):
                    for machine in (ECHO, wide):
                        with self.assertRaises(BadNumber) as caught:
                            call(machine, thing)
                        self.assertIs(caught.exception.number, thing)
        for call in (loss_of, does_keep, loss_paper):
            for in_sum in (False, True):
                with self.assertRaises(TooMany) as caught:
                    call(wide, in_sum)
                self.assertEqual(caught.exception.most, 300)


class Papers(unittest.TestCase):
    def refused(self, part, machine, in_sum, paper):
        with self.assertRaises(BadPaper) as caught:
            check_loss(machine, in_sum, paper)
        self.assertEqual(caught.exception.part, part, paper)

    def kept(self, machine, in_sum, standings):
        self.assertEqual(loss_paper(machine, in_sum), ("kept", tuple(sorted(standings))))
        self.assertEqual(check_loss(machine, in_sum, ("kept", tuple(sorted(standings)))), "kept")

    def test_standings_by_hand(self):
        nothing = ((), ())
        self.kept(ECHO, False, [])
        # The first one has ended, and the other one has told an item; it would be the first one's turn.
        self.kept(ECHO, True, [(-1, 0, nothing, (1, (0,)))])
        # At the places of LATER: nothing came; one item is kept.
        self.kept(LATER, False, [(1, 1, ((0,), (1,)), (0, ()))])
        self.kept(LATER, True, [
            # Unlike items, ahead of which nothing was kept, or the same item was kept and told.
            (1, 1, ((0,), (1,)), (0, ())),
            # From there the first one steps: an item, that it keeps, and what it kept is told: its own, the other's, a new one.
            (1, 1, ((0,), (1,)), (0, (0,))), (1, 1, ((0,), (0,)), (0, (1,))), (1, 1, ((0,), (1,)), (0, (2,))),
            # Or it ends.
            (-1, 1, ((), (0,)), (0, (1,))),
            # The end of the first one, where nothing or one item is kept, and an item of the other one.
            (-1, 1, ((), (0,)), (0, ())),
            # From there the other one steps, to an item like the one that it keeps, or a new one, or to its end.
            (-1, 1, ((), (0,)), (1, (0,))), (-1, 1, ((), (0,)), (1, (1,))), (-1, -1, nothing, (1, (0,)))])

    def test_words_and_ends_by_hand(self):
        # -1 for "yes", -2 for "no"; -1 and -2 for the WORDS number 0 and 1 that are ahead.
        machine = (("a", "b"), (), (
            ("s", ask(("word", "a"), go((("word", "a"),), (), "t"), ask(("word", "b"), go((("word", "b"),), (), "t"), go(
                (("item",),), (), "s"))), end("no")),
            ("t", ask(("word", "a"), go((("word", "a"),), (), "t"), ask(("word", "b"), go((("word", "b"),), (), "t"), go(
                (("item",),), (), "t"))), end("yes"))))
        nothing = ((), ())
        self.kept(machine, False, [])
        self.kept(machine, True, [(-2, 1, nothing, (1, (-2,))), (-2, 1, nothing, (1, (-1,))), (-2, 0, nothing, (1, (0,))),
                                  (-1, 1, nothing, (1, (-2,))), (-1, 1, nothing, (1, (-1,))), (-1, 1, nothing, (1, (0,)))])
        # Both end with the same ROW, but with unlike VERDICTS.
        parity = (("w",), (), tuple((name, ask(("word", "w"), go((), (), then), go((("item",),), (), name)), end(verdict))
                                    for name, then, verdict in (("s", "t", "yes"), ("t", "u", "no"), ("u", "u", "no"))))
        # By moments: "w" tells nothing, an item itself.
        self.assertEqual(loss_paper(parity, False), ("kept", ()))
        three = (("v", "w"), (), (
            ("s", ask(("word", "v"), go((), (), "t"), ask(("word", "w"), go((), (), "u"), go((("item",),), (), "s"))), end("yes")),
            ("t", ask(("word", "v"), go((("word", "v"),), (), "t"), ask(("word", "w"), go((("word", "w"),), (), "t"), go(
                (("item",),), (), "t"))), end("yes")),
            ("u", ask(("word", "v"), go((("word", "v"),), (), "u"), ask(("word", "w"), go((("word", "w"),), (), "u"), go(
                (("item",),), (), "u"))), end("no"))))
        self.kept(three, False, [(1, 2, nothing, (0, ())), (2, 1, nothing, (0, ())), (-1, -2, nothing, (0, ())),
                                 (-2, -1, nothing, (0, ()))])

    def test_against_all_pairs_of_lists(self):
        chance = random.Random(431)
        told = {"same": 0, "many": 0, "ends": 0, "words": 0}
        machines = [*SOME] + [small_machine(chance) for _ in range(250)]
        for machine in machines:
            for in_sum in (False, True):
                if not does_keep(machine, in_sum):
                    continue
                _, found = paper = loss_paper(machine, in_sum)
                self.assertEqual(found, tuple(sorted(set(found))))
                self.assertEqual(check_loss(machine, in_sum, paper), "kept")
                met = all_standings(machine, in_sum, 6 if machine[0] else 7)
                self.assertLessEqual(set(met), set(found))
                told["same"] += len(met) == len(found) > 1
                told["many"] += len(found) > 5
                told["ends"] += any(first < 0 and second < 0 for first, second, _, _ in found)
                told["words"] += any(min((0, *ahead)) < 0 for _, _, _, (_, ahead) in found)
                self.assertTrue(len(met) == len(found) or len(found) > 5)
        self.assertTrue(all(many > 2 for many in told.values()), told)

    def test_papers_of_losses(self):
        for machine in SOME:
            for in_sum in (False, True):
                word, *rest = paper = loss_paper(machine, in_sum)
                self.assertEqual(word == "kept", does_keep(machine, in_sum))
                self.assertEqual(loss_paper(machine, in_sum), paper)
                self.assertEqual(check_loss(machine, in_sum, paper), word)
                if word == "lost":
                    self.assertEqual(sum(map(len, rest)), sum(map(len, loss_of(machine, in_sum))))
                    self.refused("kept", machine, in_sum, ("kept", tuple(sorted(all_standings(machine, in_sum, 4)))))
                for one, other in pairs_of_lists(machine[0], 4):
                    if is_loss(machine, one, other, in_sum):
                        self.assertEqual(check_loss(machine, in_sum, ("lost", one, other)), "lost")
                    else:
                        self.refused("lost", machine, in_sum, ("lost", one, other))

    def test_kept_papers_that_are_changed(self):
        for machine, in_sum in ((LATER, True), (LATER, False), (OPEN, True), (FIRST_AT_END, True), (ECHO, True)):
            _, found = loss_paper(machine, in_sum)
            self.assertGreater(len(found), 0)
            for at, (first, second, held, (who, row)) in enumerate(found):
                self.refused("kept", machine, in_sum, ("kept", found[:at] + found[at + 1:]))
                self.refused("kept", machine, in_sum, ("kept", found[:at + 1] + found[at:]))
                for new in ((second + 1, second, held, (who, row)), (first, second - 7, held, (who, row)),
                            (first, second, held, (1 - who, row + (0,))), (first, second, held, (who, row + (5,))),
                            (first, second, (held[0] + (9,), held[1]), (who, row)), (first, second, held, (7, row))):
                    if new not in found:
                        self.refused("kept", machine, in_sum, ("kept", tuple(sorted(found[:at] + (new,) + found[at + 1:]))))
                        self.refused("kept", machine, in_sum, ("kept", tuple(sorted(found + (new,)))))
            if len(found) > 1:
                self.refused("kept", machine, in_sum, ("kept", found[::-1]))
                self.refused("kept", machine, in_sum, ("kept", found[1:2] + found[:1] + found[2:]))
            self.refused("kept", machine, in_sum, ("kept", ()))
            self.refused("kept", machine, in_sum, ("kept", found * 3))
        # The other way round it is another PAPER.
        self.refused("kept", LATER, False, loss_paper(LATER, True))
        self.refused("kept", LATER, True, loss_paper(LATER, False))

    def test_what_has_no_form(self):
        good = (1, 1, ((0,), (1,)), (0, ()))
        self.assertEqual(check_loss(LATER, False, ("kept", (good,))), "kept")
        for standing in [*wrong_things(), 1, "abcd", (), good[:3], (*good, 1), list(good), (True, 1, *good[2:]), (1, False, *good[2:]),
                         (1, "1", *good[2:]), (1, 1, ((0,),), (0, ())), (1, 1, [(0,), (1,)], (0, ())), (1, 1, ((0,), [1]), (0, ())),
                         (1, 1, ((0,), (True,)), (0, ())), (1, 1, ((0,), ("w",)), (0, ())), (1, 1, ((0,), (1,)), (0,)),
                         (1, 1, ((0,), (1,)), (0, (), ())), (1, 1, ((0,), (1,)), (False, ())), (1, 1, ((0,), (1,)), (0, [])),
                         (1, 1, ((0,), (1,)), (0, ("w",))), (1, 1, ((0,), (1,)), (0, (None,))), (1, 1, ((0,), (1,)), None),
                         (1, 1, None, (0, ())), (Agrees(), 1, *good[2:]), (1, 1, ((0,), (Agrees(),)), (0, ()))]:
            for standings in ((standing,), (good, standing), (standing, good)):
                self.refused("form", LATER, False, ("kept", standings))
        for paper in [*wrong_things(), 1, "kept", (), ("kept",), ("kept", (good,), ()), ["kept", (good,)], ("kept", [good]),
                      ("kept", None), ("kept", good), ("keep", (good,)), (Agrees(), (good,)), ("lost", (0,)), ("lost", (0,), (1,), ()),
                      ["lost", (0,), (1,)], ("lost", [0], (1,)), ("lost", (0,), [1]), ("lost", "a", (0,)), ("lost", None, (0,)),
                      ("lost", (1,), (0,)), ("lost", (0,), (2,)), ("lost", (), (1,)), ("lost", (0,), ("w",)), ("lost", (0,), (True,)),
                      ("lost", (False,), (1,)), ("lost", (0,), (None,)), ("lost", (0,), (Agrees(),)), ("lost", (0,), ([],)),
                      ("lost", (0, 2, 1), ()), ("lost", (-1,), (0,)), (Agrees(), (0,), (1,)), ("loss", (0,), (1,))]:
            self.refused("form", SILENT, False, paper)
            self.refused("form", SILENT, True, paper)
        self.assertEqual(check_loss(SILENT, False, ("lost", (0,), (1,))), "lost")
        # A string that is none of its WORDS.
        self.refused("form", SAME_WORDS, False, ("lost", ("a",), ("c",)))
        self.assertEqual(check_loss(SAME_WORDS, False, ("lost", ("a",), ("b",))), "lost")

    def test_lists_of_a_loss(self):
        self.refused("lost", SILENT, False, ("lost", (0,), (0,)))
        self.refused("lost", SILENT, True, ("lost", (), ()))
        self.refused("lost", SILENT, False, ("lost", (), (0,)))
        self.assertEqual(check_loss(SILENT, True, ("lost", (), (0,))), "lost")
        self.assertEqual(check_loss(SILENT, True, ("lost", (0, 1), (2, 0, 1, 3))), "lost")
        # Unlike in the names alone, they are the same list up to names, but unlike lists.
        self.refused("lost", ECHO, False, ("lost", (0, 1), (2, 3)))
        self.assertEqual(check_loss(SILENT, False, ("lost", (0, 1), (2, 3))), "lost")
        self.refused("lost", BY_MOMENTS, False, ("lost", (0,), (0, 0)))
        self.assertEqual(check_loss(BY_MOMENTS, True, ("lost", (0,), (0, 0))), "lost")
        self.refused("lost", FIRST_AT_END, True, ("lost", (), (0,)))

    def test_long_lists(self):
        long = (0,) * 25000
        self.assertEqual(check_loss(SILENT, True, ("lost", long, ())), "lost")
        self.assertEqual(check_loss(SILENT, True, ("lost", (), long)), "lost")
        self.assertEqual(check_loss(SILENT, False, ("lost", long, (1,) * 25000)), "lost")
        self.assertEqual(check_loss(SILENT, False, ("lost", tuple(range(25000)), tuple(range(25000, 50000)))), "lost")
        self.refused("lost", ECHO, True, ("lost", long, long[1:]))
        self.refused("form", SILENT, True, ("lost", long + (0,), ()))
        self.refused("form", SILENT, True, ("lost", (), long + (0,)))

    def test_places_come_to_again(self):
        # Behind "v" it comes to the first PLACE again, behind "w" to another one.
        back = (("v", "w"), (), (
            ("s", ask(("word", "v"), go((), (), "s"), ask(("word", "w"), go((), (), "t"), go((("item",),), (), "u"))), end()),
            ("t", ask(("word", "v"), go((("word", "v"), ("word", "v")), (), "t"), go((("item",), ("item",)), (), "t")), end("no")),
            ("u", go((("item",),), (), "u"), end())))
        nothing = ((), ())
        self.kept(back, False, [(0, 1, nothing, (0, ())), (1, 0, nothing, (0, ())), (-1, -2, nothing, (0, ())),
                                (-2, -1, nothing, (0, ()))])

    def test_twenty_thousand_standings(self):
        paper = loss_paper(two_rings(25), False)
        self.assertEqual((paper[0], len(paper[1]), len(set(paper[1]))), ("kept", 20000, 20000))
        self.assertEqual(check_loss(two_rings(25), False, paper), "kept")
        self.refused("kept", two_rings(25), False, ("kept", paper[1][:-1]))
        for call in (loss_of, does_keep, loss_paper, lambda *rest: check_loss(*rest, paper)):
            with self.assertRaises(TooMany) as caught:
                call(two_rings(26), False)
            self.assertEqual(caught.exception.most, 20000)

    def test_too_many_places(self):
        wide = wide_machine(76, False)
        for in_sum in (False, True):
            for paper in (("kept", ()), ("kept", ((0, 0, ((), ()), (0, ())),))):
                with self.assertRaises(TooMany) as caught:
                    check_loss(wide, in_sum, paper)
                self.assertEqual(caught.exception.most, 300)
            self.refused("form", wide, in_sum, ("kept", None))
            self.refused("form", wide, in_sum, ("kept", (None,)))
            # A LOSS is run without FLOWS.
            self.assertEqual(check_loss(wide, in_sum, ("lost", (0,), (1,))), "lost")
            self.refused("lost", wide, in_sum, ("lost", (0,), (0,)))

    def test_too_many_standings(self):
        slow = later_by(5)
        for call in (loss_of, does_keep, loss_paper, lambda *rest: check_loss(*rest, ("kept", ()))):
            with self.assertRaises(TooMany) as caught:
                call(slow, True)
            self.assertEqual(caught.exception.most, 20000)
        self.refused("form", slow, True, ("kept", None))
        self.refused("lost", slow, True, ("lost", (0,), (1,)))
        self.assertTrue(does_keep(later_by(2), True))
        self.assertTrue(does_keep(later_by(2), False))
        # A LOSS that is soon found is told, however much would come behind.
        machine = later_by(5, ("lost",))
        one, other = loss_of(machine, True)
        self.assertEqual(len(one) + len(other), 1)
        self.assertEqual(loss_paper(machine, True)[0], "lost")
        self.refused("kept", machine, True, ("kept", ()))

    def test_nothing_is_changed(self):
        for machine, in_sum in ((LATER, True), (SILENT, False)):
            paper = loss_paper(machine, in_sum)
            kept = copy.deepcopy((machine, paper))
            check_loss(machine, in_sum, paper)
            loss_of(machine, in_sum)
            self.assertEqual((machine, paper), kept)


def two_rings(many):
    """A MACHINE that goes by "a" or "b" to a ring of 100 PLACES, or to one of so many times 4, and tells all items there.

    In each of both two other words go on, by STATES or by boxes.
    """
    def turns(on, by_state, by_box):
        toggle = ask(("empty", "x"), ask(("empty", "y"), go((("item",),), (("keep", "x"),), by_box), go(
            (("item",),), (("empty", "y"),), by_box)), ask(("empty", "y"), go((("item",),), (("keep", "y"),), by_box), go(
                (("item",),), (("empty", "x"),), by_box)))
        return ask(("word", on[0]), go((("item",),), (), by_state), ask(("word", on[1]), toggle, go((("item",),), (), by_box)))

    def ring(letter, size, on, row):
        names = [letter + "abcdefghij"[at // 10] + "abcdefghij"[at % 10] for at in range(size)]
        return [(name, turns(on, names[(at + 1) % size], name), end("yes", row)) for at, name in enumerate(names)]

    start = ask(("word", "a"), go((), (), "paa"), ask(("word", "b"), go((), (), "qaa"), go((("item",),), (), "s")))
    return ("a", "b", "c", "d"), ("x", "y"), (
        ("s", start, end()), *ring("p", 25, "ac", ()), *ring("q", many, "bd", (("word", "a"),)))


def later_by(many, words=()):
    """A MACHINE that tells each item so many items later, what is left at the end, and of WORDS nothing."""
    boxes = tuple("abcdefgh"[:many])
    shift = tuple(("copy", one, other) for one, other in zip(boxes[1:], boxes))
    tree = go((("box", "a"),), (*shift, ("keep", boxes[-1])))
    for word in words:
        tree = ask(("word", word), go(), tree)
    return one_state(tree, end("yes", tuple(("box", box) for box in boxes)), words, boxes)


if __name__ == "__main__":
    unittest.main()
