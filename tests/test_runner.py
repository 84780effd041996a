"""[44] RUNNERS: what is fed to them, what is done and undone, JOURNALS, trials."""

import copy
import random
import unittest

from onlyalike.alike import are_alike, parting_of
from onlyalike.errors import AlikeError, BadJournal, BadMachine, BadThing, Parts, TooMany
from onlyalike.flows import flow_of
from onlyalike.least import least_flow, tidy
from onlyalike.machines import behaviour_for, pattern_behind
from onlyalike.needed import needed_behind
from onlyalike.runner import Runner, under
from made import (
    FIRST_TWO, NEIGHBOUR, NEIGHBOUR_TOO, Agrees, ask, end, go, one_state, plain_lists, slow_rings, small_machine, wide_machine,
    wrong_things,
)

SILENT = one_state(go())
THINGS = ("x", "y", "y", 3, "same", "same", "same", 3, "y", "x", -5, -5)
# Its LEAST FLOW has a THING too many for the MATCHES.
SIX = one_state(
    ask(("empty", "f"), go((), (("keep", "a"), *(("copy", one, other) for one, other in zip("abcde", "bcdef")))), ask(
        ("item", "a"), go((("item",),)), ask(("item", "b"), go((("item",),)), ask(("item", "c"), go((("item",),)), ask(
            ("item", "d"), go((("item",),)), ask(("item", "e"), go((("item",),)), ask(("item", "f"), go((("item",),)), go()))))))),
    None, (), tuple("abcdef"))


def fed_with(machine, things):
    runner = Runner(machine)
    for thing in things:
        runner.feed(thing)
    return runner


def shown(runner):
    """All that a RUNNER shows."""
    return (runner.program, runner.fed, runner.told, runner.state_now, runner.boxes_now, runner.journal, runner.ending(),
            runner.needed_now(), len(runner))


def undone(runner):
    """All that a RUNNER shows, and that its copies show while all is undone, and done again."""
    out = [shown(runner)]
    back = runner.copy()
    while back.undo():
        out.append(shown(back))
    forth = runner.copy()
    while forth.redo():
        out.append(shown(forth))
    return out


class Feeding(unittest.TestCase):
    def test_by_hand(self):
        runner = Runner(NEIGHBOUR)
        self.assertEqual(shown(runner), (NEIGHBOUR, (), (), "on", (), (), ("yes", ()), (), 0))
        self.assertEqual(runner.feed("x"), ())
        self.assertEqual(runner.feed("x"), ("same",))
        self.assertEqual(runner.feed(7), ())
        self.assertEqual(shown(runner), (
            NEIGHBOUR, ("x", "x", 7), ((), ("same",), ()), "on", (("last", 7),), (("feed", "x"), ("feed", "x"), ("feed", 7)),
            ("yes", ()), (7,), 3))
        first = Runner(FIRST_TWO)
        self.assertEqual([first.feed(x) for x in (5, "5", 5, "b")], [(), (), (5,), ()])
        self.assertEqual(first.boxes_now, (("a", 5), ("b", "5")))
        self.assertEqual(first.ending(), ("yes", (5, "5")))
        self.assertEqual(first.needed_now(), (5, "5"))

    def test_as_the_machine(self):
        chance = random.Random(441)
        for _ in range(40):
            machine = small_machine(chance)
            things = tuple(chance.choice((1, "1", "a", "b", -4)) for _ in range(chance.randint(0, 7)))
            runner = Runner(machine)
            for at, thing in enumerate(things):
                self.assertEqual(runner.feed(thing), behaviour_for(machine, things)[0][at])
            rows, verdict, last = behaviour_for(machine, things)
            self.assertEqual(runner.told, rows)
            self.assertEqual(runner.ending(), (verdict, last))
            self.assertEqual((runner.fed, len(runner)), (things, len(things)))
            name, holds = pattern_behind(machine, things)
            self.assertEqual(runner.state_now, name)
            self.assertEqual([box for box, _ in runner.boxes_now], [x for x, held in zip(machine[1], holds) if held is not None])
            self.assertEqual(runner.needed_now(), needed_behind(machine, things))
            self.assertEqual(Runner.of(machine, runner.journal), runner)

    def test_wrong_machines_and_things(self):
        for thing in [*wrong_things(), 1, "a", ()]:
            with self.assertRaises(BadMachine) as caught:
                Runner(thing)
            self.assertEqual(caught.exception.place, ())
            with self.assertRaises(BadMachine):
                Runner.of(thing, thing)
        runner = fed_with(NEIGHBOUR, (1, 1))
        before = undone(runner)
        for thing in [*wrong_things(), (), "", "a\nb", "x" * 21, ("feed", 1)]:
            with self.assertRaises(BadThing) as caught:
                runner.feed(thing)
            self.assertIs(caught.exception.given, thing)
        self.assertEqual(undone(runner), before)
        for thing in ("x" * 20, " ", 10 ** 59, -1):
            runner.feed(thing)
        self.assertEqual(runner.fed[2:], ("x" * 20, " ", 10 ** 59, -1))

    def test_a_thousand_and_one_more(self):
        runner = fed_with(NEIGHBOUR, range(999))
        self.assertEqual(runner.feed(998), ("same",))
        before = shown(runner)
        for thing in (5, "x"):
            with self.assertRaises(TooMany) as caught:
                runner.feed(thing)
            self.assertEqual(caught.exception.most, 1000)
        with self.assertRaises(BadThing):
            runner.feed(None)
        self.assertEqual(shown(runner), before)
        self.assertEqual((len(runner), runner.needed_now()), (1000, (998,)))
        # What is done else is no feeding, and what was undone counts no more.
        runner.slim()
        runner.swap(NEIGHBOUR_TOO)
        self.assertEqual(len(runner), 1000)
        with self.assertRaises(TooMany):
            runner.feed(5)
        for _ in range(3):
            self.assertTrue(runner.undo())
        self.assertEqual(len(runner), 999)
        runner.feed(5)
        self.assertEqual(len(runner), 1000)

    def test_ending_changes_nothing(self):
        runner = fed_with(FIRST_TWO, (1, 2))
        runner.undo()
        before = undone(runner)
        for _ in range(3):
            self.assertEqual(runner.ending(), ("yes", (1,)))
            self.assertEqual(runner.needed_now(), (1,))
        self.assertEqual(undone(runner), before)

    def test_needed_in_the_order_of_first_feeding(self):
        # Tells at the end what came last and what came ahead of it.
        last_two = one_state(go((), (("keep", "a"), ("copy", "a", "b"))), end("yes", (("box", "a"), ("box", "b"))), (), ("a", "b"))
        for things, wanted in (((1, 2, 3), (2, 3)), ((3, 2, 3), (3, 2)), ((1, 2, 1, 2), (1, 2)), ((1, 1), (1,)), ((), ()),
                               ((2, 1, 1, 2), (2, 1)), ((7, "7", 7), (7, "7"))):
            self.assertEqual(fed_with(last_two, things).needed_now(), wanted)
        # One that keeps more than it needs.
        keeps = one_state(ask(("item", "a"), go((("item",),)), go((), (("keep", "a"), ("copy", "a", "b")))), None, (), ("a", "b"))
        runner = fed_with(keeps, (1, 2))
        self.assertEqual((runner.boxes_now, runner.needed_now()), ((("a", 2), ("b", 1)), (2,)))
        wide = Runner(wide_machine(76, False))
        with self.assertRaises(TooMany):
            wide.needed_now()


class Swapping(unittest.TestCase):
    def test_for_one_that_is_alike(self):
        runner = fed_with(NEIGHBOUR, THINGS)
        told, ending = runner.told, runner.ending()
        self.assertIsNone(runner.swap(NEIGHBOUR_TOO))
        self.assertEqual(runner.program, NEIGHBOUR_TOO)
        self.assertEqual((runner.told, runner.ending(), runner.fed), (told, ending, THINGS))
        self.assertEqual(runner.journal, (*(("feed", x) for x in THINGS), ("swap", NEIGHBOUR_TOO)))
        self.assertEqual(runner.state_now, pattern_behind(NEIGHBOUR_TOO, THINGS)[0])
        self.assertEqual(runner.boxes_now, (("spare", "x"), ("x", -5)))
        self.assertEqual(runner.feed(-5), ("same",))
        other = fed_with(NEIGHBOUR_TOO, (*THINGS, -5))
        self.assertEqual(runner, other)
        self.assertEqual(shown(runner)[3:5], shown(other)[3:5])
        # For the very same one, too.
        runner.swap(NEIGHBOUR_TOO)
        self.assertEqual(runner.journal[-1], ("swap", NEIGHBOUR_TOO))

    def test_for_one_that_is_not(self):
        for machine in (SILENT, FIRST_TWO):
            runner = fed_with(NEIGHBOUR, (1, 2))
            runner.undo()
            before = undone(runner)
            with self.assertRaises(Parts) as caught:
                runner.swap(machine)
            given = caught.exception.given
            self.assertEqual(len(given), len(parting_of(NEIGHBOUR, machine)))
            self.assertNotEqual(behaviour_for(NEIGHBOUR, given), behaviour_for(machine, given))
            for items in plain_lists(("same",), len(given) - 1):
                self.assertEqual(behaviour_for(NEIGHBOUR, items), behaviour_for(machine, items))
            self.assertEqual(undone(runner), before)

    def test_what_is_refused(self):
        runner = fed_with(NEIGHBOUR, (1, 2))
        runner.undo()
        before = undone(runner)
        for thing in [*wrong_things(), 1, "a", ()]:
            with self.assertRaises(BadMachine) as caught:
                runner.swap(thing)
            self.assertEqual(caught.exception.place, ())
        with self.assertRaises(BadMachine) as caught:
            runner.swap(((), (), (("on", go(), go()),)))
        self.assertEqual(caught.exception.place, (2, 0, 2))
        with self.assertRaises(TooMany) as caught:
            runner.swap(wide_machine(76, False))
        self.assertEqual(caught.exception.most, 300)
        self.assertEqual(undone(runner), before)
        wide = fed_with(wide_machine(76, False), (1, 2))
        for machine in (NEIGHBOUR, wide.program):
            with self.assertRaises(TooMany):
                wide.swap(machine)
        with self.assertRaises(BadMachine):
            wide.swap(None)


class Slimming(unittest.TestCase):
    def test_by_hand(self):
        runner = fed_with(NEIGHBOUR_TOO, ("x", "y", 3))
        self.assertEqual(runner.boxes_now, (("spare", "y"), ("x", 3)))
        self.assertIsNone(runner.slim())
        self.assertEqual(runner.program, tidy(least_flow(flow_of(NEIGHBOUR_TOO))))
        self.assertEqual(runner.boxes_now, (("a", 3),))
        self.assertEqual(runner.state_now, "sc")
        self.assertEqual((runner.fed, runner.told), (("x", "y", 3), ((), (), ())))
        self.assertEqual(runner.journal[-1], ("slim",))
        self.assertEqual(runner.feed(3), ("same",))

    def test_it_tells_the_same_from_then_on(self):
        chance = random.Random(442)
        for _ in range(60):
            machine = small_machine(chance)
            things = [chance.choice((1, "1", "a", "b")) for _ in range(8)]
            runner, other = Runner(machine), Runner(machine)
            at = chance.randrange(8)
            for thing in things[:at]:
                runner.feed(thing)
                other.feed(thing)
            told = runner.told
            runner.slim()
            self.assertTrue(are_alike(runner.program, machine))
            self.assertEqual(runner.told, told)
            words = machine[0]
            for thing in [*things[at:], None]:
                needed = other.needed_now()
                self.assertEqual(runner.needed_now(), needed)
                self.assertEqual(sorted(map(repr, [x for _, x in runner.boxes_now])), sorted(map(repr, needed)))
                self.assertFalse([x for x in needed if x in words])
                self.assertEqual(runner.ending(), other.ending())
                if thing is not None:
                    self.assertEqual(runner.feed(thing), other.feed(thing))

    def test_too_many(self):
        for machine, most in ((wide_machine(76, False), 300), (SIX, 5), (slow_rings(), 20000)):
            runner = fed_with(machine, (1, 2))
            runner.undo()
            before = (runner.program, runner.fed, runner.journal, runner.boxes_now)
            with self.assertRaises(TooMany) as caught:
                runner.slim()
            self.assertEqual(caught.exception.most, most)
            self.assertEqual((runner.program, runner.fed, runner.journal, runner.boxes_now), before)
            self.assertTrue(runner.redo())


class Undoing(unittest.TestCase):
    def test_nothing_to_undo(self):
        runner = Runner(NEIGHBOUR)
        self.assertIs(runner.undo(), False)
        self.assertIs(runner.redo(), False)
        self.assertEqual(shown(runner), shown(Runner(NEIGHBOUR)))

    def test_each_kind_of_deed(self):
        runner = Runner(NEIGHBOUR)
        seen = [shown(runner)]
        for deed in (lambda: runner.feed("x"), lambda: runner.feed("y"), lambda: runner.swap(NEIGHBOUR_TOO), lambda: runner.feed("y"),
                     runner.slim, lambda: runner.feed("same"), lambda: runner.swap(NEIGHBOUR), runner.slim):
            deed()
            seen.append(shown(runner))
        for wanted in seen[-2::-1]:
            self.assertIs(runner.undo(), True)
            self.assertEqual(shown(runner), wanted)
        self.assertIs(runner.undo(), False)
        for wanted in seen[1:]:
            self.assertIs(runner.redo(), True)
            self.assertEqual(shown(runner), wanted)
        self.assertIs(runner.redo(), False)
        for _ in range(3):
            runner.undo()
        self.assertEqual(shown(runner), seen[-4])
        self.assertIs(runner.redo(), True)
        self.assertEqual(shown(runner), seen[-3])

    def test_redo_is_gone_behind_a_new_deed(self):
        for deed in (lambda one: one.feed(9), lambda one: one.slim(), lambda one: one.swap(NEIGHBOUR)):
            runner = fed_with(NEIGHBOUR, (1, 2, 3))
            runner.undo()
            runner.undo()
            deed(runner)
            self.assertIs(runner.redo(), False)
            self.assertIs(runner.undo(), True)
            self.assertEqual(runner.fed, (1,))
            self.assertIs(runner.redo(), True)

    def test_what_is_refused_takes_nothing_back(self):
        runner = fed_with(NEIGHBOUR, (1, 2, 3))
        runner.undo()
        for deed in (lambda: runner.feed(None), lambda: runner.swap(SILENT), lambda: runner.swap(None)):
            with self.assertRaises(AlikeError):
                deed()
        self.assertEqual(runner.fed, (1, 2))
        self.assertIs(runner.redo(), True)
        self.assertEqual(runner.fed, (1, 2, 3))

    def test_at_random(self):
        chance = random.Random(443)
        for _ in range(30):
            runner = Runner(NEIGHBOUR)
            done, taken = [], []
            for _ in range(60):
                kind = chance.choice(("feed", "feed", "swap", "slim", "undo", "undo", "redo"))
                if kind == "undo":
                    self.assertIs(runner.undo(), done != [])
                    taken += done[-1:]
                    del done[-1:]
                elif kind == "redo":
                    self.assertIs(runner.redo(), taken != [])
                    done += taken[-1:]
                    del taken[-1:]
                else:
                    deed = ("feed", chance.choice((1, 2, "same"))) if kind == "feed" else ("slim",) if kind == "slim" else (
                        "swap", chance.choice((NEIGHBOUR, NEIGHBOUR_TOO)))
                    getattr(runner, kind)(*deed[1:])
                    done.append(deed)
                    taken = []
                self.assertEqual(runner.journal, tuple(done))
                self.assertEqual(runner.fed, tuple(deed[1] for deed in done if deed[0] == "feed"))
            self.assertEqual(shown(Runner.of(NEIGHBOUR, runner.journal)), shown(runner))


class Copies(unittest.TestCase):
    def test_a_copy_goes_on_by_itself(self):
        runner = fed_with(NEIGHBOUR, (1, 2, 3))
        runner.slim()
        runner.undo()
        runner.undo()
        other = runner.copy()
        self.assertIsInstance(other, Runner)
        self.assertIsNot(other, runner)
        self.assertEqual(undone(other), undone(runner))
        before = undone(runner)
        other.feed(9)
        other.swap(NEIGHBOUR_TOO)
        self.assertEqual(undone(runner), before)
        self.assertEqual(other.fed, (1, 2, 9))
        other = runner.copy()
        before = undone(other)
        self.assertTrue(runner.redo() and runner.redo())
        runner.feed(5)
        self.assertEqual(undone(other), before)
        self.assertEqual(len(other), 2)

    def test_equal_ones(self):
        one = fed_with(NEIGHBOUR, (1, "b"))
        self.assertTrue(one == fed_with(NEIGHBOUR, (1, "b")))
        self.assertFalse(one != fed_with(NEIGHBOUR, (1, "b")))
        self.assertTrue(one == Runner.of(NEIGHBOUR, (("feed", 1), ("feed", "b"))) == one.copy() == one)
        other = fed_with(NEIGHBOUR_TOO, (1,))
        self.assertFalse(one == other)
        other.swap(NEIGHBOUR)
        self.assertFalse(one == other)
        other.feed("b")
        self.assertTrue(one == other)
        self.assertNotEqual(one.journal, other.journal)
        other.feed(1)
        self.assertTrue(one != other)
        other.undo()
        self.assertTrue(one == other)
        # The same THINGS by another MACHINE, though it is ALIKE; unlike ones; in another order.
        self.assertFalse(one == fed_with(NEIGHBOUR_TOO, (1, "b")))
        self.assertFalse(one == fed_with(NEIGHBOUR, ("1", "b")))
        self.assertFalse(one == fed_with(NEIGHBOUR, ("b", 1)))
        one.slim()
        self.assertFalse(one == other)
        for thing in [*wrong_things(), 1, "a", (), NEIGHBOUR, (1, "b")]:
            self.assertIs(one == thing, False)
            self.assertIs(one != thing, True)

    def test_it_is_not_gone_through(self):
        runner = fed_with(NEIGHBOUR, (1, 2))
        for call in (iter, list, tuple, lambda one: 1 in one, lambda one: one[0], reversed):
            with self.assertRaises(TypeError):
                call(runner)
        self.assertEqual(len(runner), 2)
        self.assertEqual(len(Runner(NEIGHBOUR)), 0)


class Trials(unittest.TestCase):
    def ready(self):
        runner = fed_with(NEIGHBOUR, (1, 2, 3, 4))
        runner.undo()
        runner.undo()
        return runner

    def test_left_in_the_ordinary_way(self):
        runner = self.ready()
        before = undone(runner)
        with runner.trial() as one:
            self.assertIs(one, runner)
            self.assertEqual(undone(one), before)
            one.feed(7)
            one.slim()
            one.feed(7)
            self.assertEqual(runner.told, ((), (), (), ("same",)))
            one.undo()
        self.assertEqual(undone(runner), before)
        with runner.trial():
            while runner.undo():
                pass
            runner.feed("w")
        self.assertEqual(undone(runner), before)
        self.assertTrue(runner.redo() and runner.redo())
        self.assertEqual(runner.fed, (1, 2, 3, 4))

    def test_left_by_an_error(self):
        runner = self.ready()
        before = undone(runner)
        with self.assertRaises(BadThing):
            with runner.trial() as one:
                one.feed(7)
                one.feed(None)
        self.assertEqual(undone(runner), before)
        for error in (ZeroDivisionError, KeyboardInterrupt, StopIteration):
            with self.assertRaises(error):
                with runner.trial():
                    runner.swap(NEIGHBOUR_TOO)
                    raise error
            self.assertEqual(undone(runner), before)
        for _ in range(1):
            with runner.trial():
                runner.undo()
                break
        self.assertEqual(undone(runner), before)

    def test_nested(self):
        runner = self.ready()
        before = undone(runner)
        with runner.trial():
            runner.feed(8)
            inner = undone(runner)
            with runner.trial():
                runner.undo()
                runner.undo()
                with self.assertRaises(Parts):
                    with runner.trial() as one:
                        one.feed(1)
                        one.swap(SILENT)
                self.assertEqual(runner.fed, (1,))
            self.assertEqual(undone(runner), inner)
        self.assertEqual(undone(runner), before)

    def test_all_is_as_when_the_block_began(self):
        runner = self.ready()
        manager = runner.trial()
        runner.feed(5)
        before = undone(runner)
        with manager:
            runner.feed(6)
        self.assertEqual(undone(runner), before)
        # A copy that is made in a trial stays.
        with runner.trial() as one:
            one.feed(1)
            other = one.copy()
        self.assertEqual((runner.fed, other.fed), ((1, 2, 5), (1, 2, 5, 1)))

    def test_under(self):
        runner = self.ready()
        before = undone(runner)
        self.assertEqual(under(runner.trial(), lambda one: one.feed(2)), ("same",))
        self.assertEqual(undone(runner), before)
        self.assertIs(under(runner.trial(), lambda one: one), runner)
        self.assertIsNone(under(runner.trial(), lambda one: None))
        with self.assertRaises(BadThing):
            under(runner.trial(), lambda one: one.feed(None))
        self.assertEqual(undone(runner), before)


class Journals(unittest.TestCase):
    def refused(self, number, machine, journal):
        with self.assertRaises(BadJournal) as caught:
            Runner.of(machine, journal)
        self.assertEqual(caught.exception.number, number)
        self.assertEqual(type(caught.exception.number), type(number))

    def test_of_each_journal(self):
        runner = Runner(NEIGHBOUR)
        runner.feed(1)
        runner.slim()
        runner.feed("b")
        runner.swap(NEIGHBOUR_TOO)
        runner.feed("b")
        self.assertEqual(runner.journal, (("feed", 1), ("slim",), ("feed", "b"), ("swap", NEIGHBOUR_TOO), ("feed", "b")))
        other = Runner.of(NEIGHBOUR, runner.journal)
        self.assertEqual(undone(other), undone(runner))
        self.assertEqual(other, runner)
        # All of it can be undone, one by one.
        for many in range(5, 0, -1):
            self.assertEqual(len(other.journal), many)
            self.assertTrue(other.undo())
        self.assertFalse(other.undo())
        self.assertEqual(other, Runner(NEIGHBOUR))
        self.assertEqual(shown(Runner.of(NEIGHBOUR, ())), shown(Runner(NEIGHBOUR)))
        for at in range(6):
            self.assertEqual(Runner.of(NEIGHBOUR, runner.journal[:at]).journal, runner.journal[:at])
        # What was undone is in no JOURNAL.
        runner.undo()
        self.assertEqual(len(runner.journal), 4)

    def test_no_tuple_of_at_most_four_hundred(self):
        feed = ("feed", 1)
        self.assertEqual(len(Runner.of(NEIGHBOUR, (feed,) * 400)), 400)
        for journal in [*wrong_things(), 1, "feed", [feed], (feed,) * 401, (None,) * 401]:
            self.refused(None, NEIGHBOUR, journal)

    def test_what_is_none_by_form(self):
        feed = ("feed", 1)
        for thing in [*wrong_things(), 1, "slim", (), ("slim", 1), ("feed",), ("feed", 1, 2), ("swap",), ("swap", NEIGHBOUR, 1),
                      ["slim"], ["feed", 1], ("undo",), ("feed", None), ("feed", ""), ("feed", True), ("swap", None), ("swap", SILENT),
                      (Agrees(),), (Agrees(), 1), ("swap", "x"), (None, 1), ("Slim",), ("ending",)]:
            for ahead in ((), (feed,), (("slim",), feed), (feed,) * 7):
                self.refused(len(ahead), NEIGHBOUR, (*ahead, thing))
                self.refused(len(ahead), NEIGHBOUR, (*ahead, thing, None, feed, thing))

    def test_what_is_refused(self):
        feed = ("feed", 1)
        wide = wide_machine(76, False)
        self.refused(1, wide, (feed, ("slim",)))
        self.refused(2, wide, (feed, feed, ("swap", wide), None))
        self.refused(0, SIX, (("slim",),))
        self.refused(1, NEIGHBOUR, (("swap", NEIGHBOUR_TOO), ("swap", FIRST_TWO), ("swap", SILENT)))
        self.refused(2, NEIGHBOUR, (feed, ("slim",), ("swap", wide)))
        self.refused(3, NEIGHBOUR, (feed, feed, ("slim",), None))


class Kept(unittest.TestCase):
    def test_what_was_passed_stays(self):
        machine, journal = copy.deepcopy(NEIGHBOUR), (("feed", 1), ("swap", copy.deepcopy(NEIGHBOUR_TOO)), ("slim",))
        kept = copy.deepcopy((machine, journal))
        runner = Runner.of(machine, journal)
        shown(runner)
        runner.feed(3)
        self.assertEqual((machine, journal), kept)

    def test_what_is_told_is_the_callers_own(self):
        runner = fed_with(NEIGHBOUR, (1, 2))
        for value in shown(runner):
            self.assertIn(type(value), (tuple, str, int))
        self.assertEqual(shown(runner), shown(runner))
        with self.assertRaises(AttributeError):
            runner.fed = ()


if __name__ == "__main__":
    unittest.main()
