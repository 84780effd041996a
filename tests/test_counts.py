"""[39] COUNT and LISTED, [40] the TALE and the RANGE."""

import copy
import itertools
import random
import unittest

from onlyalike.counts import count_lists, list_at, list_number, lists_in_all, range_of
from onlyalike.errors import BadList, BadMachine, BadNumber, BadVerdict, TooMany
from onlyalike.machines import behaviour_for, need_machine
from onlyalike.things import is_plain_list
from made import (
    FIRST_TWO, NEIGHBOUR, Agrees, ask, end, go, machine_pairs, one_state, plain_lists, ring_machine, small_machine,
    wide_machine, wrong_things,
)

SILENT = one_state(go())
# Says "no" once an item is like the one ahead.
NO_REPEAT = ((), ("x",), (
    ("s", ask(("item", "x"), go((), (), "t"), go((), (("keep", "x"),), "s")), end("yes")), ("t", go((), (), "t"), end("no"))))
# Says "yes" if the last item is like the first one, tells each item that is, and the first one at the end.
LIKE_FIRST = ((), ("x",), (
    ("s", go((), (("keep", "x"),), "y"), end("no")),
    ("n", ask(("item", "x"), go((("item",), ("box", "x")), (), "y"), go((), (), "n")), end("no", (("box", "x"),))),
    ("y", ask(("item", "x"), go((("item",), ("box", "x")), (), "y"), go((), (), "n")), end("yes", (("box", "x"),)))))
FOUR_WORDS = (("a", "b", "c", "d"), (), (("on", go(), end()),))


def size(items):
    return len({x for x in items if isinstance(x, int)})


def verdict_of(machine, items):
    return behaviour_for(machine, items)[1]


def in_order(words, items):
    """A key by which PLAIN LISTS of one length are in their order."""
    return [words.index(x) if isinstance(x, str) else len(words) + x for x in items]


def listed(machine, verdict, many, things):
    """What is LISTED, by the document's words."""
    found = [items for items in plain_lists(machine[0], many)
             if len(items) == many and size(items) <= things and verdict_of(machine, items) == verdict]
    return sorted(found, key=lambda items: in_order(machine[0], items))


def tale(machine, items):
    rows, _, last = behaviour_for(machine, items)
    return sum(map(len, rows)) + len(last)


def stirling(many, lots):
    """How many ways there are to put so many things into so many lots, none of them empty."""
    if many == 0 or lots == 0:
        return 1 if many == lots else 0
    return lots * stirling(many - 1, lots) + stirling(many - 1, lots - 1)


SOME = [SILENT, NEIGHBOUR, FIRST_TWO, NO_REPEAT, LIKE_FIRST, ring_machine(3, "w", ("w",), (1,))]


class Counts(unittest.TestCase):
    def all_of(self, machine, many, bounds):
        for verdict in ("yes", "no"):
            for things in bounds:
                wanted = listed(machine, verdict, many, things)
                self.assertEqual(count_lists(machine, verdict, many, things), len(wanted))
                for number, items in enumerate(wanted):
                    self.assertEqual(list_at(machine, verdict, many, things, number), items)
                    self.assertEqual(list_number(machine, verdict, things, items), number)
                with self.assertRaises(BadNumber) as caught:
                    list_at(machine, verdict, many, things, len(wanted))
                self.assertEqual(caught.exception.number, len(wanted))

    def test_by_hand(self):
        self.assertEqual([count_lists(SILENT, "yes", many, 40) for many in range(6)], [1, 1, 2, 5, 15, 52])
        self.assertEqual([count_lists(SILENT, "yes", 4, things) for things in range(5)], [0, 1, 8, 14, 15])
        self.assertEqual([count_lists(SILENT, "no", many, 40) for many in range(3)], [0, 0, 0])
        self.assertEqual([count_lists(NO_REPEAT, "yes", many, 40) for many in range(5)], [1, 1, 1, 2, 5])
        self.assertEqual(list_at(NO_REPEAT, "yes", 3, 40, 0), (0, 1, 0))
        self.assertEqual(list_at(NO_REPEAT, "yes", 3, 40, 1), (0, 1, 2))
        # Words stand ahead of numbers, lists of numbers go on in their order.
        self.assertEqual([list_at(NEIGHBOUR, "yes", 2, 2, number) for number in range(5)],
                         [("same", "same"), ("same", 0), (0, "same"), (0, 0), (0, 1)])
        self.assertEqual(list_number(NEIGHBOUR, "yes", 2, (0, 1)), 4)
        self.assertEqual(list_at(FOUR_WORDS, "yes", 1, 1, 3), ("d",))

    def test_against_all_lists(self):
        for machine in SOME:
            for many in range(6):
                self.all_of(machine, many, range(many + 2))
            self.all_of(machine, 3, (39, 40))
        self.all_of(FOUR_WORDS, 3, range(4))

    def test_small_machines_against_all_lists(self):
        chance = random.Random(391)
        seen = {}
        for _ in range(150):
            machine = small_machine(chance)
            many = chance.randint(0, 4 if machine[0] else 5)
            things = chance.randint(0, many + 1)
            self.all_of(machine, many, (things,))
            seen[bool(machine[0]), bool(listed(machine, "no", many, things))] = True
        self.assertEqual(len(seen), 4)

    def test_the_bound_is_of_unlike_numbers(self):
        self.assertEqual(list_at(SILENT, "yes", 4, 1, 0), (0, 0, 0, 0))
        self.assertEqual(count_lists(SILENT, "yes", 40, 1), 1)
        self.assertEqual(count_lists(SILENT, "yes", 40, 2), 2 ** 39)
        self.assertEqual(count_lists(NEIGHBOUR, "yes", 3, 0), 1)
        self.assertEqual(list_at(NEIGHBOUR, "yes", 3, 0, 0), ("same",) * 3)
        self.assertEqual(list_number(NEIGHBOUR, "yes", 0, ("same",) * 40), 0)
        self.assertEqual(count_lists(SILENT, "yes", 3, 0), 0)
        self.assertEqual(count_lists(SILENT, "yes", 0, 0), 1)

    def test_the_length_0(self):
        for machine in SOME:
            verdict = verdict_of(machine, ())
            other = "no" if verdict == "yes" else "yes"
            for things in (0, 1, 40):
                self.assertEqual(count_lists(machine, verdict, 0, things), 1)
                self.assertEqual(count_lists(machine, other, 0, things), 0)
                self.assertEqual(list_at(machine, verdict, 0, things, 0), ())
                self.assertEqual(list_number(machine, verdict, things, ()), 0)
                with self.assertRaises(BadNumber):
                    list_at(machine, other, 0, things, 0)
                with self.assertRaises(BadList):
                    list_number(machine, other, things, ())

    def test_both_verdicts_are_all(self):
        for machine in [*SOME, FOUR_WORDS] + [one for one, _ in machine_pairs(392, 20)]:
            for many, things in ((0, 0), (1, 0), (1, 1), (5, 2), (7, 7), (23, 9), (40, 40), (40, 3), (2, 40)):
                both = count_lists(machine, "yes", many, things) + count_lists(machine, "no", many, things)
                self.assertEqual(both, lists_in_all(len(machine[0]), many, things))

    def test_lists_in_all(self):
        for words, many, things in itertools.product(range(5), range(4), range(5)):
            lists = [items for items in plain_lists("abcd"[:words], many) if len(items) == many and size(items) <= things]
            self.assertEqual(lists_in_all(words, many, things), len(lists))
        # As the fact tells it: places for the numbers, WORDS at each other one, and lots of like numbers.
        binomial = [[1]]
        for _ in range(40):
            binomial.append([1, *[a + b for a, b in zip(binomial[-1], binomial[-1][1:])], 1])
        table = [[stirling(many, lots) for lots in range(many + 1)] for many in range(12)]
        for words, many, things in itertools.product(range(5), range(12), (0, 1, 2, 5, 11, 40)):
            told = sum(binomial[many][j] * words ** (many - j) * sum(table[j][:things + 1]) for j in range(many + 1))
            self.assertEqual(lists_in_all(words, many, things), told)
        self.assertEqual(lists_in_all(0, 40, 40), 157450588391204931289324344702531067)
        self.assertEqual(lists_in_all(4, 40, 0), 4 ** 40)

    def test_long_lists_there_and_back(self):
        chance = random.Random(393)
        for machine in [*SOME, FOUR_WORDS] + [one for one, _ in machine_pairs(394, 20)]:
            for many, things in ((40, 40), (40, 5), (39, 2), (17, 17), (31, 40)):
                for verdict in ("yes", "no"):
                    count = count_lists(machine, verdict, many, things)
                    numbers = {0, 1, count // 2, count // 2 + 1, count - 2, count - 1} if count > 1 else range(count)
                    found = []
                    for number in sorted(set(numbers) | {chance.randrange(count)} if count else ()):
                        if 0 <= number < count:
                            items = list_at(machine, verdict, many, things, number)
                            self.assertEqual(len(items), many)
                            self.assertLessEqual(size(items), things)
                            self.assertTrue(is_plain_list(machine[0], items))
                            self.assertEqual(verdict_of(machine, items), verdict)
                            self.assertEqual(list_number(machine, verdict, things, items), number)
                            found.append(in_order(machine[0], items))
                    self.assertEqual(found, sorted(found))

    def test_numbers_of_more_than_thirty_figures(self):
        count = count_lists(FOUR_WORDS, "yes", 40, 40)
        self.assertEqual(count, lists_in_all(4, 40, 40))
        self.assertGreater(count, 10 ** 37)
        self.assertEqual(list_at(FOUR_WORDS, "yes", 40, 40, count - 1), tuple(range(40)))
        self.assertEqual(list_at(FOUR_WORDS, "yes", 40, 40, 0), ("a",) * 40)
        number = count * 2 // 3
        neighbours = [list_at(FOUR_WORDS, "yes", 40, 40, number + at) for at in range(3)]
        self.assertEqual([list_number(FOUR_WORDS, "yes", 40, items) for items in neighbours], [number, number + 1, number + 2])
        keys = [in_order(FOUR_WORDS[0], items) for items in neighbours]
        self.assertTrue(keys[0] < keys[1] < keys[2])
        for number in (count, count + 1, 10 ** 59, 10 ** 61):
            with self.assertRaises(BadNumber) as caught:
                list_at(FOUR_WORDS, "yes", 40, 40, number)
            self.assertEqual(caught.exception.number, number)

    def test_things_that_were_let_go(self):
        # Each box but one is emptied again, so most numbers are those of THINGS that are kept no more.
        forgets = (("w",), ("x", "y"), (
            ("s", ask(("word", "w"), go((), (("empty", "x"), ("empty", "y")), "s"), ask(("item", "x"), go((), (), "t"), go(
                (), (("keep", "x"), ("copy", "x", "y")), "s"))), end("yes")),
            ("t", ask(("item", "y"), go((), (("empty", "x"),), "s"), go((), (), "t")), end("no"))))
        for many in range(6):
            self.all_of(forgets, many, range(many + 1))
        for verdict in ("yes", "no"):
            count = count_lists(forgets, verdict, 30, 12)
            for number in (0, count // 7, count // 3, count - 1):
                items = list_at(forgets, verdict, 30, 12, number)
                self.assertEqual(list_number(forgets, verdict, 12, items), number)
                self.assertEqual(verdict_of(forgets, items), verdict)


class Wrong(unittest.TestCase):
    calls = (lambda *rest: count_lists(*rest[:4]), lambda *rest: list_at(*rest),
             lambda *rest: list_number(rest[0], rest[1], rest[3], rest[4]), lambda *rest: range_of(*rest[:3]))

    def refused(self, kind, given, call, *rest):
        with self.assertRaises(kind) as caught:
            call(*rest)
        told = caught.exception.given if kind in (BadVerdict, BadList) else caught.exception.number
        self.assertIs(told, given)

    def test_machines_come_first(self):
        for call in self.calls:
            for thing in [*wrong_things(), 1, "a", ()]:
                with self.assertRaises(BadMachine) as caught:
                    call(thing, thing, thing, thing, thing)
                self.assertEqual(caught.exception.place, ())

    def test_verdicts_come_next(self):
        for call in self.calls:
            for thing in [*wrong_things(), 1, "", "Yes", "maybe", ("yes",)]:
                self.refused(BadVerdict, thing, call, SILENT, thing, thing, thing, thing)

    def test_numbers(self):
        wide = wide_machine(76, False)
        for thing in [*wrong_things(), "1", (), (1,), -1, 41, 10 ** 30]:
            self.refused(BadNumber, thing, count_lists, wide, "yes", thing, thing)
            self.refused(BadNumber, thing, count_lists, SILENT, "yes", thing, 40)
            self.refused(BadNumber, thing, list_at, SILENT, "yes", thing, 40, 0)
            self.refused(BadNumber, thing, list_at, SILENT, "yes", 40, thing, 0)
            self.refused(BadNumber, thing, lists_in_all, 4, thing, 40)
            self.refused(BadNumber, thing, lists_in_all, thing, 4, 40)
            self.refused(BadNumber, thing, count_lists, wide, "yes", 40, thing)
            self.refused(BadNumber, thing, list_at, wide, "yes", thing, thing, thing)
            self.refused(BadNumber, thing, list_at, wide, "yes", 0, thing, None)
            self.refused(BadNumber, thing, list_number, wide, "yes", thing, None)
            self.refused(BadNumber, thing, range_of, wide, "yes", thing)
            self.refused(BadNumber, thing, lists_in_all, 4, thing, thing)
            self.refused(BadNumber, thing, lists_in_all, 4, 40, thing)
            self.refused(BadNumber, thing, lists_in_all, thing, thing, thing)
        for thing in (5, 40):
            self.refused(BadNumber, thing, lists_in_all, thing, 0, 0)
        for thing in [*wrong_things(), "1", (), (1,), -1, -(10 ** 30)]:
            self.refused(BadNumber, thing, list_at, SILENT, "yes", 2, 2, thing)
            # Only a number that is too great comes behind what the FLOW has.
            self.refused(BadNumber, thing, list_at, wide, "yes", 2, 2, thing)
        for thing in (2, 3, 10 ** 59):
            self.refused(BadNumber, thing, list_at, SILENT, "yes", 2, 2, thing)
        self.refused(BadNumber, 0, list_at, SILENT, "no", 2, 2, 0)

    def test_lists(self):
        wide = wide_machine(76, False)
        for thing in [*wrong_things(), 1, "ab", (1,), (0, 2), ("a", "same"), (True,), (None,), ([],), (Agrees(),), [0], (0,) * 41,
                      (-1,), (0, "0")]:
            self.refused(BadList, thing, list_number, NEIGHBOUR, "yes", 40, thing)
            if thing != ("a", "same"):
                self.refused(BadList, thing, list_number, wide, "yes", 40, thing)
        for things, items in ((0, (0,)), (1, (0, 1)), (2, ("same", 0, 1, "same", 2)), (39, tuple(range(40)))):
            self.refused(BadList, items, list_number, NEIGHBOUR, "yes", things, items)
        self.refused(BadList, (0, 0), list_number, NO_REPEAT, "yes", 40, (0, 0))
        self.refused(BadList, (0, 1), list_number, NO_REPEAT, "no", 40, (0, 1))
        self.assertEqual(list_number(NEIGHBOUR, "yes", 1, (0,) * 40), 2 ** 40 - 1)

    def test_too_many_places(self):
        wide = wide_machine(76, False)
        for call, rest in ((count_lists, (0, 0)), (list_at, (0, 0, 0)), (list_at, (0, 0, 10 ** 9)), (list_number, (0, ())),
                           (range_of, (0,))):
            for verdict in ("yes", "no"):
                with self.assertRaises(TooMany) as caught:
                    call(wide, verdict, *rest)
                self.assertEqual(caught.exception.most, 300)
        self.refused(BadList, (0,), list_number, wide, "yes", 0, (0,))
        self.assertEqual(count_lists(wide_machine(75, False), "yes", 40, 40), lists_in_all(3, 40, 40))

    def test_nothing_is_changed(self):
        machine = copy.deepcopy(LIKE_FIRST)
        items = (0, 1, 0)
        told = [(count_lists(machine, "yes", 5, 3), list_at(machine, "yes", 5, 3, 4), list_number(machine, "yes", 5, items),
                 range_of(machine, "no", 4)) for _ in range(2)]
        self.assertEqual(told[0], told[1])
        self.assertEqual((machine, items), (LIKE_FIRST, (0, 1, 0)))


class Ranges(unittest.TestCase):
    def test_by_hand(self):
        self.assertEqual(range_of(SILENT, "yes", 40), (0, 0))
        self.assertIsNone(range_of(SILENT, "no", 40))
        self.assertEqual(range_of(NEIGHBOUR, "yes", 0), (0, 0))
        self.assertEqual(range_of(NEIGHBOUR, "yes", 40), (0, 39))
        self.assertEqual(range_of(LIKE_FIRST, "yes", 4), (3, 7))
        self.assertEqual(range_of(LIKE_FIRST, "no", 4), (1, 5))
        self.assertIsNone(range_of(LIKE_FIRST, "yes", 0))
        self.assertEqual(range_of(LIKE_FIRST, "no", 0), (0, 0))
        self.assertIsNone(range_of(LIKE_FIRST, "no", 1))
        # WORDS that are told count, too.
        words = one_state(ask(("word", "w"), go((("word", "w"), ("word", "w"), ("item",))), go()), end("no", (("word", "w"),)), ("w",))
        self.assertEqual(range_of(words, "no", 5), (1, 16))

    def test_against_all_lists(self):
        chance = random.Random(401)
        nones = {}
        for machine in SOME + [need_machine(small_machine(chance)) for _ in range(150)]:
            for many in range(4 if len(machine[0]) > 1 else 6):
                for verdict in ("yes", "no"):
                    tales = [tale(machine, items) for items in plain_lists(machine[0], many)
                             if len(items) == many and verdict_of(machine, items) == verdict]
                    wanted = (min(tales), max(tales)) if tales else None
                    self.assertEqual(range_of(machine, verdict, many), wanted)
                    nones[wanted is None] = True
        self.assertEqual(len(nones), 2)

    def test_long_ones(self):
        for many in range(41):
            self.assertEqual(range_of(ring_machine(7, "w", ("w",), (3,)), "no", many), (0, 0) if many >= 3 else None)
        echo = one_state(go((("item",),) * 9), end("no", (("word", "w"),) * 9), ("w",))
        self.assertEqual(range_of(echo, "no", 40), (369, 369))
        self.assertIsNone(range_of(echo, "yes", 40))


if __name__ == "__main__":
    unittest.main()
