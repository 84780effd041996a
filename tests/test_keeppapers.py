"""[22] PAPERS on the NEED, [23] PAPERS on the CLASSES."""

import copy
import itertools
import random
import unittest

from onlyalike.errors import BadMachine, BadPaper, TooMany
from onlyalike.flows import flow_of
from onlyalike.keeppapers import check_classes, check_need, classes_paper, need_paper
from onlyalike.least import classes_of, least_flow, same_class
from onlyalike.machines import behaviour_for
from onlyalike.needed import need_of, needed_behind
from onlyalike.things import is_plain_list
from made import (
    FIRST_TWO, NEIGHBOUR, NEIGHBOUR_TOO, Agrees, ask, end, go, machine_pairs, one_state, plain_lists, ring_machine,
    slow_rings, wide_machine, wrong_things,
)

SILENT = one_state(go())
KEEPER = one_state(
    ask(("word", "drop"), go((), (("empty", "x"), ("empty", "y"))),
        ask(("word", "tell"), go((("box", "x"), ("box", "y"))),
            ask(("empty", "x"), go((), (("keep", "x"),)),
                ask(("item", "x"), go(), go((), (("keep", "y"),)))))), None, ("drop", "tell"), ("x", "y"))


def of_boxes(many):
    """A MACHINE that keeps so many unlike items, the first ones, and tells what comes again of them."""
    boxes = tuple("abcdefgh"[:many])
    tree = go()
    for box in reversed(boxes):
        tree = ask(("empty", box), go((), (("keep", box),)), ask(("item", box), go((("item",),)), tree))
    return one_state(tree, None, (), boxes)


SIX = of_boxes(6)

# What is kept in t is not NEEDED there; behind (0, 0) nothing else is kept in u, behind (0, 1) one thing more.
MET_BY_A_THING = ((), ("a", "b"), (
    ("s", go((), (("keep", "a"),), "t"), end()),
    ("t", ask(("item", "a"), go((), (("empty", "a"), ("keep", "b")), "u"), go((), (("keep", "b"),), "u")), end()),
    ("u", go((("box", "b"),), (), "u"), end())))


def keeping_machine(chance):
    """Some MACHINE that keeps much, and asks for little of it."""
    boxes = ("p", "q")
    names = ("one", "two", "three")[:chance.randint(2, 3)]

    def leaf():
        row = tuple(chance.choice((("box", "p"), ("box", "q"), ("item",))) for _ in range(chance.choice((0, 0, 0, 1))))
        deeds = [chance.choice((("keep", box), ("keep", box), ("empty", box), ("copy", chance.choice(boxes), box)))
                 for box in boxes if chance.random() < 0.5]
        return go(row, tuple(deeds), chance.choice(names))

    def tree():
        return ask(("item", chance.choice(boxes)), leaf(), leaf()) if chance.random() < 0.6 else leaf()

    return (), boxes, tuple((name, tree(), end()) for name in names)


def row_holds(machine, items, number, other, behind):
    """Whether one of ROWS holds, by the document's words."""
    one = behaviour_for(machine, items + behind)
    two = behaviour_for(machine, tuple(other if x == number else x for x in items) + behind)
    return one[0][len(items):] != two[0][len(items):] or one[1:] != two[1:]


def part_holds(machine, one, other, pairs, behind):
    """Whether one of PARTS holds, by the document's words."""
    names = {second: first for first, second in pairs}
    numbers = sorted({x for x in other if isinstance(x, int)})
    fresh = max([x for x in one if isinstance(x, int)], default=-1) + 1
    for number in numbers:
        if number not in names:
            names[number], fresh = fresh, fresh + 1
    first = behaviour_for(machine, one + behind)
    second = behaviour_for(machine, tuple(names.get(x, x) for x in other) + behind)
    return first[0][len(one):] != second[0][len(other):] or first[1:] != second[1:]


def wanted(machine, lists):
    """The (A, B, PAIRS) that are wanted."""
    out = []
    for a, b in itertools.combinations(range(len(lists)), 2):
        ones, others = needed_behind(machine, lists[a]), needed_behind(machine, lists[b])
        if len(ones) == len(others):
            out += [(a, b, tuple(zip(sorted(ones), order))) for order in itertools.permutations(sorted(others))]
    return out


class Checks(unittest.TestCase):
    def refused(self, call, part, machine, paper):
        with self.assertRaises(BadPaper) as caught:
            call(machine, paper)
        self.assertEqual(caught.exception.part, part, paper)

    def too_many(self, most, call, *given):
        with self.assertRaises(TooMany) as caught:
            call(*given)
        self.assertEqual(caught.exception.most, most)


class Need(Checks):
    def test_papers_that_are_told(self):
        for machine in [SILENT, NEIGHBOUR, NEIGHBOUR_TOO, FIRST_TWO, KEEPER, SIX, of_boxes(8)] + [
                one for one, _ in machine_pairs(51, 120)]:
            paper = need_paper(machine)
            word, items, rows = paper
            self.assertEqual(word, "need")
            self.assertTrue(is_plain_list(machine[0], items))
            self.assertEqual(len(rows), need_of(machine))
            self.assertEqual(tuple(row[0] for row in rows), tuple(sorted(needed_behind(machine, items))))
            for row in rows:
                self.assertTrue(row_holds(machine, items, *row))
            self.assertEqual(check_need(machine, paper), len(rows))
            self.assertEqual(need_paper(machine), paper)
        self.assertEqual(need_paper(SILENT), ("need", (), ()))

    def test_papers_by_hand(self):
        self.assertEqual(check_need(NEIGHBOUR, ("need", (0,), ((0, 1, (0,)),))), 1)
        self.assertEqual(check_need(NEIGHBOUR, ("need", (0,), ((0, 1, (1,)),))), 1)
        self.assertEqual(check_need(NEIGHBOUR, ("need", (0, 1), ((1, 7, (1,)),))), 1)
        self.assertEqual(check_need(NEIGHBOUR, ("need", ("same", 0, 0), ((0, 5, (5,)),))), 1)
        self.assertEqual(check_need(NEIGHBOUR, ("need", (0, 1, 2), ())), 0)
        self.assertEqual(check_need(FIRST_TWO, ("need", (0, 1, 2), ((0, 3, ()), (1, 2 ** 70, ())))), 2)
        self.assertEqual(check_need(FIRST_TWO, ("need", (0, 1, 2), ((1, 3, ()),))), 1)
        # The row of an item of LIST does not count: only what comes behind.
        self.refused(check_need, "row", NEIGHBOUR, ("need", (0, 0, 1), ((0, 5, ("same",)),)))

    def test_rows_that_do_not_hold(self):
        for rows in (((0, 1, ()),), ((0, 1, (2,)),), ((0, 1, (2, 0)),), ((0, 1, ("same", 0)),)):
            self.refused(check_need, "row", NEIGHBOUR, ("need", (0,), rows))
        self.refused(check_need, "row", NEIGHBOUR, ("need", (0, 1), ((0, 2, (0,)),)))
        self.refused(check_need, "row", NEIGHBOUR, ("need", (0, 1), ((0, 2, (0,)), (1, 2, (1,)))))
        self.refused(check_need, "row", FIRST_TWO, ("need", (0, 1, 2), ((0, 3, ()), (1, 3, ()), (2, 3, ()))))
        self.refused(check_need, "row", FIRST_TWO, ("need", (0, 1, 2), ((0, 3, ()), (2, 3, (0, 1, 2, 3)))))

    def test_checked_as_the_document_says(self):
        said = {}
        for machine in [NEIGHBOUR, FIRST_TWO, KEEPER] + [one for one, _ in machine_pairs(52, 10)]:
            for items in plain_lists(machine[0], 3):
                numbers = {x for x in items if isinstance(x, int)}
                for number, other in itertools.product(sorted(numbers), (len(numbers), len(numbers) + 2)):
                    for behind in plain_lists((*machine[0], 1, 2), 2):
                        held = row_holds(machine, items, number, other, behind)
                        said[held] = True
                        if held:
                            self.assertEqual(check_need(machine, ("need", items, ((number, other, behind),))), 1)
                        else:
                            self.refused(check_need, "row", machine, ("need", items, ((number, other, behind),)))
        self.assertEqual(len(said), 2)

    def test_what_has_no_form(self):
        good = (0, 1, (0,))
        for paper in [*wrong_things(), 1, "need", (), ("need", (0,)), ("need", (0,), (good,), ()), ["need", (0,), (good,)],
                      ("Need", (0,), (good,)), (Agrees(), (0,), (good,)), ("classes", (), ()), ("need", None, ()), ("need", [0], ()),
                      ("need", (1,), ()), ("need", ("a",), ()), ("need", (0, 2), ()), ("need", (True,), ()),
                      ("need", (0,) * 1001, ()), ("need", (0,), None), ("need", (0,), [good]), ("need", (0,), good)]:
            self.refused(check_need, "form", NEIGHBOUR, paper)
        self.assertEqual(check_need(NEIGHBOUR, ("need", (0,) * 1000, (good,))), 1)

    def test_rows_that_have_no_form(self):
        good = (0, 2, (0,))
        for row in [*wrong_things(), 1, "abc", (), good[:2], (*good, 1), list(good), (2, 3, (0,)), (-1, 2, (0,)), ("0", 2, (0,)),
                    ("same", 2, (0,)), (True, 2, (0,)), (False, 2, (0,)), (None, 2, ()), (Agrees(), 2, ()), (0, 0, ()), (0, 1, ()), (0, -1, ()),
                    (0, True, ()), (0, "2", ()), (0, "same", ()), (0, None, ()), (0, Agrees(), ()), (0, 2, [0]), (0, 2, None),
                    (0, 2, "same"), (0, 2, (-1,)), (0, 2, (True,)), (0, 2, ("a",)), (0, 2, (None,)), (0, 2, (Agrees(),)),
                    (0, 2, ((0,),)), (0, 2, (0,) * 20001)]:
            for rows in ((row,), (row, (1, 2, ())), ((1, 2, (1,)), row)):
                self.refused(check_need, "form", NEIGHBOUR, ("need", (0, "same", 1), rows))
        one, two = (0, 2, (1,)), (1, 2, (1,))
        for rows in ((two, one), (one, one), (two, two)):
            self.refused(check_need, "form", FIRST_TWO, ("need", (0, 1), rows))
        # A form that is bad further behind is due ahead of a row that does not hold.
        self.refused(check_need, "form", NEIGHBOUR, ("need", (0, 1), ((0, 2, ()), (1, 2, None))))

    def test_a_long_list_behind(self):
        self.assertEqual(check_need(FIRST_TWO, ("need", (0,) * 1000, ((0, 1, (0,) * 20000),))), 1)
        self.assertEqual(check_need(FIRST_TWO, ("need", (0,), ((0, 1, (5,) * 20000),))), 1)

    def test_no_too_many_where_only_behaviours_are_looked_at(self):
        wide = wide_machine(76, False)
        self.assertEqual(check_need(wide, ("need", (0,), ())), 0)
        self.refused(check_need, "row", wide, ("need", (0,), ((0, 1, (0, 1)),)))
        self.refused(check_need, "form", wide, None)
        self.assertEqual(check_need(SIX, ("need", (0, 1, 2, 3, 4, 5), tuple((n, 6, (n,)) for n in range(6)))), 6)
        self.refused(check_need, "row", slow_rings(), ("need", (0,), ((0, 1, (0, "a", "b")),)))

    def test_what_is_refused_of_need_paper(self):
        self.too_many(300, need_paper, wide_machine(76, False))
        self.too_many(20000, need_paper, slow_rings())
        self.assertEqual(len(need_paper(SIX)[2]), 6)
        for thing in [*wrong_things(), 1, "a", ()]:
            for call in (need_paper, classes_paper, lambda x: check_need(x, None), lambda x: check_classes(x, None)):
                with self.assertRaises(BadMachine) as caught:
                    call(thing)
                self.assertEqual(caught.exception.place, ())


class Classes(Checks):
    def test_papers_that_are_told(self):
        for machine in [SILENT, NEIGHBOUR, NEIGHBOUR_TOO, FIRST_TWO, KEEPER, of_boxes(4), ring_machine(20, "w", ("w",), (19,))] + [
                one for one, _ in machine_pairs(53, 120)]:
            paper = classes_paper(machine)
            word, lists, parts = paper
            self.assertEqual(word, "classes")
            self.assertEqual(len(lists), len(least_flow(flow_of(machine))[1]))
            self.assertEqual([part[:3] for part in parts], wanted(machine, lists))
            self.assertTrue(all(is_plain_list(machine[0], items) for items in lists))
            for a, b, pairs, behind in parts:
                self.assertTrue(part_holds(machine, lists[a], lists[b], pairs, behind))
            for one, other in itertools.combinations(lists[:6], 2):
                self.assertIs(same_class(machine, one, other), False)
            self.assertEqual(check_classes(machine, paper), len(lists))
            self.assertEqual(classes_paper(machine), paper)
        self.assertEqual(classes_paper(SILENT), ("classes", ((),), ()))

    def test_as_many_lists_as_classes_where_a_place_is_met_by_what_is_not_needed(self):
        # NEW alone leads from t to another PLACE than (0, 0) does, of the same CLASS.
        self.assertEqual(classes_of(flow_of(MET_BY_A_THING)), (0, 1, 2, 2))
        _, lists, parts = paper = classes_paper(MET_BY_A_THING)
        self.assertEqual(lists, ((), (0,), (0, 0)))
        self.assertEqual([part[:3] for part in parts], [(0, 1, ())])
        self.assertEqual(check_classes(MET_BY_A_THING, paper), 3)
        # With a PART for lists behind which things are NEEDED: w tells once more what is told in u, and then goes back.
        words, boxes, states = MET_BY_A_THING
        more = (words, boxes, (*states[:2], ("u", go((("box", "b"),), (), "w"), end()), (
            "w", ask(("item", "b"), go((("box", "b"),), (("keep", "a"),), "t"), go((("box", "b"),), (), "u")), end())))
        _, lists, parts = paper = classes_paper(more)
        self.assertEqual(len(lists), len(set(classes_of(flow_of(more)))))
        self.assertTrue([part for part in parts if part[2]])
        for a, b, pairs, behind in parts:
            self.assertTrue(part_holds(more, lists[a], lists[b], pairs, behind))
        self.assertEqual(check_classes(more, paper), len(lists))

    def test_as_many_lists_as_classes_of_machines_that_keep_much(self):
        chance = random.Random(2)
        for _ in range(2000):
            machine = keeping_machine(chance)
            _, lists, parts = paper = classes_paper(machine)
            self.assertEqual(len(lists), len(set(classes_of(flow_of(machine)))))
            for a, b, pairs, behind in parts:
                self.assertTrue(part_holds(machine, lists[a], lists[b], pairs, behind))
            self.assertEqual(check_classes(machine, paper), len(lists))

    def test_papers_by_hand(self):
        # Behind () and "same" nothing is NEEDED, and the next "same" is told by the one alone.
        parts = ((0, 1, (), ("same",)),)
        self.assertEqual(check_classes(NEIGHBOUR, ("classes", ((), ("same",)), parts)), 2)
        self.assertEqual(check_classes(NEIGHBOUR, ("classes", ((), ("same",), (0,)), parts)), 3)
        self.assertEqual(check_classes(NEIGHBOUR, ("classes", ((0, 1), (), (0, "same")), ((1, 2, (), ("same",)),))), 3)
        self.assertEqual(check_classes(NEIGHBOUR, ("classes", (), ())), 0)
        self.assertEqual(check_classes(NEIGHBOUR, ("classes", ((0, 0),), ())), 1)
        self.refused(check_classes, "part", NEIGHBOUR, ("classes", ((), ("same",)), ((0, 1, (), ()),)))
        # Two lists that lead to one CLASS.
        self.refused(check_classes, "part", NEIGHBOUR, ("classes", ((0,), (0, 1)), ((0, 1, ((0, 1),), (0, 1, 2)),)))
        self.refused(check_classes, "part", NEIGHBOUR, ("classes", ((0,), (0,)), ((0, 1, ((0, 0),), (0, 1, 2)),)))
        self.refused(check_classes, "pairs", NEIGHBOUR, ("classes", ((0,), (0, 1)), ()))

    def test_common_numbers(self):
        # KEEPER needs 0 behind the one, 1 behind the other; paired, they are 0, and the 0 of the list B is 1 there.
        lists = ((0,), (0, "drop", 1))
        for behind in ((0, 1, "tell"), (1, 0, "tell"), ("tell",), (5, "tell")):
            self.refused(check_classes, "part", KEEPER, ("classes", lists, ((0, 1, ((0, 1),), behind),)))
        # Which of two is told first tells them apart; by either pairing but one.
        lists = ((0, 1), (0, 1, "drop", 1, 0))
        self.refused(check_classes, "part", KEEPER, (
            "classes", lists, ((0, 1, ((0, 0), (1, 1)), ("tell",)), (0, 1, ((0, 1), (1, 0)), ("tell",)))))
        self.refused(check_classes, "pairs", KEEPER, ("classes", lists, ((0, 1, ((0, 0), (1, 1)), ("tell",)),)))
        # A number of the list B that is not paired, nor like any of the list A.
        tell_all = one_state(go((("box", "x"), ("box", "y"), ("item",)), (("keep", "x"), ("copy", "x", "y"))), None, (), ("x", "y"))
        lists = ((0,), (0, 1, 1))
        self.assertEqual(needed_behind(tell_all, lists[0]), (0,))
        self.assertEqual(needed_behind(tell_all, lists[1]), (1,))
        self.assertEqual(check_classes(tell_all, ("classes", lists, ((0, 1, ((0, 1),), (7,)),))), 2)

    def test_checked_as_the_document_says(self):
        said = {}
        for machine in [NEIGHBOUR, FIRST_TWO, KEEPER] + [one for one, _ in machine_pairs(54, 25)]:
            for one, other in itertools.product(plain_lists(machine[0], 2), repeat=2):
                for behind in plain_lists((*machine[0], 1), 1):
                    parts = tuple((*part, behind) for part in wanted(machine, (one, other)))
                    held = all(part_holds(machine, one, other, *part[2:]) for part in parts)
                    said[held, len(parts)] = True
                    if held:
                        self.assertEqual(check_classes(machine, ("classes", (one, other), parts)), 2)
                    else:
                        self.refused(check_classes, "part", machine, ("classes", (one, other), parts))
        self.assertTrue({(True, 0), (True, 1), (False, 1), (False, 2)} <= set(said), said)

    def test_papers_that_are_changed(self):
        _, lists, parts = classes_paper(KEEPER)
        self.assertEqual(len(lists), 3)
        more = lists + ((0, "drop"),)
        self.assertEqual(parts, ())
        self.refused(check_classes, "pairs", KEEPER, ("classes", lists, ((0, 1, (), ()),)))
        self.refused(check_classes, "pairs", KEEPER, ("classes", more, parts))
        five = ring_machine(5, "w", ("w",), (4,))
        _, lists, parts = paper = classes_paper(five)
        self.assertEqual((len(lists), len(parts)), (5, 10))
        self.refused(check_classes, "pairs", five, ("classes", lists[:4], parts))
        for at in range(10):
            a, b, pairs, behind = parts[at]
            self.refused(check_classes, "pairs", five, ("classes", lists, parts[:at] + parts[at + 1:]))
            for wrong in ((b, a, pairs, behind), (a, b + 5, pairs, behind), (a - 7, b, pairs, behind), (a, b, ((0, 0),), behind),
                          (a, b, ((-3, 10 ** 30),), behind), (a, a, pairs, behind)):
                self.refused(check_classes, "pairs", five, ("classes", lists, parts[:at] + (wrong,) + parts[at + 1:]))
            for wrong in ((), ("w",) * 20, (0, 1, 2)):
                if not part_holds(five, lists[a], lists[b], pairs, wrong):
                    self.refused(check_classes, "part", five, (
                        "classes", lists, parts[:at] + ((a, b, pairs, wrong),) + parts[at + 1:]))
        self.refused(check_classes, "pairs", five, ("classes", lists, parts[::-1]))
        self.refused(check_classes, "pairs", five, ("classes", lists, parts[1:2] + parts[:1] + parts[2:]))
        self.refused(check_classes, "part", five, ("classes", (*lists[:4], lists[0]), parts))
        self.assertEqual(check_classes(five, paper), 5)

    def test_pairs_of_two_things(self):
        tells = one_state(
            ask(("word", "w"), go((("box", "x"), ("box", "y")), (("copy", "x", "y"), ("copy", "y", "x"))),
                ask(("empty", "x"), go((), (("keep", "x"),)), ask(("item", "x"), go(), ask(("empty", "y"), go((), (("keep", "y"),)), go())))),
            end("yes", (("box", "x"),)), ("w",), ("x", "y"))
        lists = ((0, 1), (0, 1, 2, "w"))
        self.assertEqual(wanted(tells, lists), [(0, 1, ((0, 0), (1, 1))), (0, 1, ((0, 1), (1, 0)))])
        for order in ([0, 1], [1, 0]):
            parts = [(0, 1, ((0, 0), (1, 1)), ("w",)), (0, 1, ((0, 1), (1, 0)), ("w",))]
            # By the second pairing they are alike, so no PAPER on these holds; the other order is none at all.
            self.refused(check_classes, "part" if order == [0, 1] else "pairs", tells, (
                "classes", lists, tuple(parts[at] for at in order)))
        # These two are told apart by their VERDICT, however their THINGS are paired.
        flag = (("w",), ("x", "y"), tuple(
            (name, ask(("word", "w"), go((), (), other), ask(("empty", "x"), go((), (("keep", "x"),), name), ask(
                ("empty", "y"), go((), (("keep", "y"),), name), go((), (), name)))), end(verdict, (("box", "x"), ("box", "y"))))
            for name, other, verdict in (("one", "two", "yes"), ("two", "one", "no"))))
        lists = ((0, 1), (0, 1, "w"))
        parts = tuple((*part, ()) for part in wanted(flag, lists))
        self.assertEqual(len(parts), 2)
        self.assertEqual(check_classes(flag, ("classes", lists, parts)), 2)
        self.refused(check_classes, "pairs", flag, ("classes", lists, parts[::-1]))

    def test_what_has_no_form(self):
        good = (0, 1, (), ("same",))
        lists = ((), ("same",))
        for paper in [*wrong_things(), 1, "classes", (), ("classes", lists), ("classes", lists, (good,), ()), ["classes", lists, (good,)],
                      ("need", lists, (good,)), (Agrees(), lists, (good,)), ("classes", None, (good,)), ("classes", list(lists), (good,)),
                      ("classes", (None,), ()), ("classes", ((1,),), ()), ("classes", (("a",),), ()), ("classes", ((True,),), ()),
                      ("classes", ([],), ()), ("classes", ((0,) * 1001,), ()), ("classes", ("same",), ()), ("classes", ((),) * 301, ()),
                      ("classes", lists, None), ("classes", lists, [good]), ("classes", lists, good), ("classes", lists, (good,) * 5001)]:
            self.refused(check_classes, "form", NEIGHBOUR, paper)
        for part in [*wrong_things(), 1, "abcd", (), good[:3], (*good, 1), list(good), ("0", 1, (), ()), (True, 1, (), ()), (0, True, (), ()),
                     (0, None, (), ()), (Agrees(), 1, (), ()), (0, 1, None, ()), (0, 1, [], ()), (0, 1, "", ()), (0, 1, (0,), ()),
                     (0, 1, ((0,),), ()), (0, 1, ((0, 0, 0),), ()), (0, 1, ([0, 0],), ()), (0, 1, ((0, True),), ()), (0, 1, (("0", 0),), ()),
                     (0, 1, ((None, 0),), ()), (0, 1, (), None), (0, 1, (), ["same"]), (0, 1, (), "same"), (0, 1, (), ("a",)),
                     (0, 1, (), (-1,)), (0, 1, (), (True,)), (0, 1, (), (None,)), (0, 1, (), (Agrees(),)), (0, 1, (), (0,) * 20001)]:
            for parts in ((part,), (good, part), (part, good)):
                self.refused(check_classes, "form", NEIGHBOUR, ("classes", lists, parts))
        self.refused(check_classes, "pairs", NEIGHBOUR, ("classes", lists, (good,) * 5000))
        self.assertEqual(check_classes(NEIGHBOUR, ("classes", lists, ((0, 1, (), ("same",) + (0,) * 19999),))), 2)
        self.assertEqual(check_classes(NEIGHBOUR, ("classes", ((0,) * 1000,), ())), 1)

    def test_three_hundred_lists(self):
        self.refused(check_classes, "pairs", NEIGHBOUR, ("classes", ((),) * 300, ()))
        self.refused(check_classes, "pairs", NEIGHBOUR, ("classes", ((0,),) * 300, ((0, 1, (), ()),)))

    def test_too_many_parts(self):
        self.assertEqual(len(classes_paper(ring_machine(79, "w", ("w",), (78,)))[2]), 79 * 39)
        wide = wide_machine(75, False)
        self.assertEqual(len(classes_paper(wide)[1]), 1)

        # 100 and 101 PLACES without things are 4950 and 5050 PARTS.
        def counter(many):
            turn = ask(("empty", "x"), go((), (("keep", "x"),)), go((), (("empty", "x"),)))
            states = []
            for at, (name, tree, ending) in enumerate(ring_machine((many + 1) // 2, "w", ("w",), ())[2]):
                on = tree[2][3]
                keep = go((), (("keep", "x"),), name)
                if at == many // 2 and many % 2 == 1:
                    keep = go((), (), on)
                states.append((name, ask(("word", "w"), ask(("empty", "x"), keep, go((), (("empty", "x"),), on)), go((), (), name)),
                               end("no") if at == 0 else end()))
            return ("w",), ("x",), tuple(states)

        paper = classes_paper(counter(100))
        self.assertEqual((len(paper[1]), len(paper[2])), (100, 4950))
        self.assertEqual(check_classes(counter(100), paper), 100)
        self.assertEqual(len(least_flow(flow_of(counter(101)))[1]), 101)
        self.too_many(5000, classes_paper, counter(101))

    def test_too_many_where_it_is_due(self):
        wide = wide_machine(76, False)
        self.too_many(300, classes_paper, wide)
        for paper in (("classes", (), ()), ("classes", ((),), ()), ("classes", ((), ()), ()), ("classes", ((),), ((0, 1, (), ()),))):
            self.too_many(300, check_classes, wide, paper)
        self.refused(check_classes, "form", wide, ("classes", (), None))
        slow = slow_rings()
        self.too_many(20000, classes_paper, slow)
        self.too_many(20000, check_classes, slow, ("classes", ((0,), ()), ()))
        self.refused(check_classes, "form", slow, ("classes", ((1,), ()), ()))

    def test_six_needed_things(self):
        six = tuple(range(6))
        self.too_many(5, classes_paper, SIX)
        for lists in ((six, ()), ((), six), (six, six), (six[:5], six + six)):
            for parts in ((), ((0, 1, (), ()),)):
                self.too_many(5, check_classes, SIX, ("classes", lists, parts))
            self.refused(check_classes, "form", SIX, ("classes", lists, None))
        self.assertEqual(check_classes(SIX, ("classes", (six,), ())), 1)
        self.refused(check_classes, "pairs", SIX, ("classes", (six,), ((0, 1, (), ()),)))
        self.assertEqual(check_classes(SIX, ("classes", ((), six[:1], six[:2], six[:5]), ())), 4)
        self.refused(check_classes, "pairs", SIX, ("classes", (six[:5], six[:5]), ()))
        self.assertEqual(len(classes_paper(of_boxes(5))[1]), 6)

    def test_nothing_is_changed(self):
        machine, paper = copy.deepcopy(KEEPER), copy.deepcopy(classes_paper(KEEPER))
        need = copy.deepcopy(need_paper(KEEPER))
        check_classes(machine, paper)
        check_need(machine, need)
        self.assertEqual((machine, paper, need), (KEEPER, classes_paper(KEEPER), need_paper(KEEPER)))


if __name__ == "__main__":
    unittest.main()
