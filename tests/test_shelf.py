"""[45] SHELVES."""

import copy
import random
import unittest

from onlyalike.alike import parting_of
from onlyalike.errors import BadMachine, BadWord, Missing, Parts, TooMany
from onlyalike.insum import alike_in_sum, parting_in_sum
from onlyalike.machines import behaviour_for
from onlyalike.shelf import Shelf
from made import (
    FIRST_TWO, NEIGHBOUR, NEIGHBOUR_TOO, ask, end, go, one_state, plain_lists, slow_rings, summed, wide_machine, wrong_things,
)

SILENT = one_state(go())
# Both tell "w" once for each item, the one at once, the other one later; IN SUM they are ALIKE.
AT_ONCE = (("w",), (), (("s", go((("word", "w"),), (), "s"), end()),))
LATER = (("w",), (), (("s", go((), (), "t"), end()), ("t", go((("word", "w"),), (), "t"), end("yes", (("word", "w"),)))))
NAMES = ("a", "b", "abcdef", "zz")
NO_NAMES = [*wrong_things(), 1, (), ("a",), "", "A", "a1", "abcdefg", "a b", " ", "a\n", "-"]


def shown(shelf):
    """All that a SHELF shows."""
    return shelf.is_strict, shelf.labels(), [shelf[name] for name in shelf.labels()], len(shelf)


def undone(shelf):
    """All that it shows, and shows while all is undone; a trial keeps it as it is."""
    out = [shown(shelf)]
    with shelf.trial() as one:
        while one.undo():
            out.append(shown(one))
    return out


def both():
    return Shelf(), Shelf(strict=False)


class Shelves(unittest.TestCase):
    def test_strict_by_name_alone(self):
        self.assertIs(Shelf().is_strict, True)
        self.assertIs(Shelf(strict=True).is_strict, True)
        self.assertIs(Shelf(strict=False).is_strict, False)
        for wrong in (lambda: Shelf(True), lambda: Shelf(False), lambda: Shelf(other=True)):
            with self.assertRaises(TypeError):
                wrong()
        with self.assertRaises(AttributeError):
            Shelf().is_strict = False

    def test_by_hand(self):
        for shelf in both():
            self.assertEqual((len(shelf), shelf.labels()), (0, ()))
            shelf["zz"] = NEIGHBOUR
            shelf["b"] = FIRST_TWO
            shelf["abcdef"] = SILENT
            self.assertEqual((len(shelf), shelf.labels()), (3, ("abcdef", "b", "zz")))
            self.assertEqual((shelf["zz"], shelf["b"], shelf["abcdef"]), (NEIGHBOUR, FIRST_TWO, SILENT))
            # A name that is there begins anew, with a MACHINE that need not be ALIKE.
            shelf["b"] = NEIGHBOUR
            self.assertEqual((shelf["b"], len(shelf)), (NEIGHBOUR, 3))
            self.assertIsNone(shelf.forget("b"))
            self.assertEqual((len(shelf), shelf.labels()), (2, ("abcdef", "zz")))
            self.assertIs("b" in shelf, False)
            shelf["b"] = SILENT
            self.assertEqual(shelf["b"], SILENT)

    def test_in_of_anything(self):
        for shelf in both():
            shelf["a"] = NEIGHBOUR
            self.assertIs("a" in shelf, True)
            for thing in [*NO_NAMES, "b", NEIGHBOUR, [[]], ({},)]:
                self.assertIs(thing in shelf, False)
                self.assertIs(thing not in shelf, True)

    def test_wrong_names_and_machines(self):
        for shelf in both():
            shelf["a"] = NEIGHBOUR
            before = undone(shelf)
            for thing in [*NO_NAMES, "b"]:
                for call in (lambda: shelf[thing], lambda: shelf.forget(thing), lambda: shelf.replace(thing, None),
                             lambda: shelf.replace(thing, NEIGHBOUR)):
                    with self.assertRaises(Missing) as caught:
                        call()
                    self.assertIs(caught.exception.given, thing)
            for thing in NO_NAMES:
                for machine in (None, NEIGHBOUR):
                    with self.assertRaises(BadWord) as caught:
                        shelf[thing] = machine
                    self.assertIs(caught.exception.given, thing)
            for thing in [*wrong_things(), 1, "a", ()]:
                for name in ("a", "b"):
                    with self.assertRaises(BadMachine) as caught:
                        shelf[name] = thing
                    self.assertEqual(caught.exception.place, ())
                with self.assertRaises(BadMachine):
                    shelf.replace("a", thing)
            with self.assertRaises(BadMachine) as caught:
                shelf.replace("a", ((), (), (("on", go(), go()),)))
            self.assertEqual(caught.exception.place, (2, 0, 2))
            self.assertEqual(undone(shelf), before)
            self.assertTrue(shelf.undo())
            self.assertFalse(shelf.undo())

    def test_replace_by_what_is_alike(self):
        for shelf in both():
            shelf["a"] = NEIGHBOUR
            self.assertIsNone(shelf.replace("a", NEIGHBOUR_TOO))
            self.assertEqual(shelf["a"], NEIGHBOUR_TOO)
            shelf.replace("a", NEIGHBOUR_TOO)
            shelf.replace("a", NEIGHBOUR)
            self.assertEqual(shelf.labels(), ("a",))

    def test_replace_by_what_is_alike_in_sum_alone(self):
        self.assertTrue(alike_in_sum(AT_ONCE, LATER))
        strict, loose = both()
        for shelf in (strict, loose):
            shelf["a"] = AT_ONCE
            shelf["b"] = SILENT
        before = undone(strict)
        with self.assertRaises(Parts) as caught:
            strict.replace("a", LATER)
        given = caught.exception.given
        self.assertEqual(len(given), len(parting_of(AT_ONCE, LATER)))
        self.assertNotEqual(behaviour_for(AT_ONCE, given), behaviour_for(LATER, given))
        self.assertEqual(undone(strict), before)
        loose.replace("a", LATER)
        self.assertEqual(loose["a"], LATER)
        self.assertTrue(loose.undo())
        self.assertEqual(loose["a"], AT_ONCE)

    def test_replace_by_what_is_neither(self):
        odd = one_state(ask(("empty", "x"), go((), (("keep", "x"),)), go((("item",),))), None, (), ("x",))
        for one, other in ((NEIGHBOUR, SILENT), (AT_ONCE, SILENT), (FIRST_TWO, NEIGHBOUR), (odd, SILENT)):
            for shelf, summing in zip(both(), (lambda told: told, summed)):
                shelf["a"] = one
                before = undone(shelf)
                with self.assertRaises(Parts) as caught:
                    shelf.replace("a", other)
                given = caught.exception.given
                self.assertNotEqual(summing(behaviour_for(one, given)), summing(behaviour_for(other, given)))
                words = tuple(sorted({*one[0], *other[0]}))
                for items in plain_lists(words, len(given) - 1):
                    self.assertEqual(summing(behaviour_for(one, items)), summing(behaviour_for(other, items)))
                self.assertEqual(undone(shelf), before)

    def test_too_many(self):
        for shelf in both():
            shelf["a"] = NEIGHBOUR
            shelf["b"] = slow_rings()
            shelf["c"] = wide_machine(76, False)
            before = undone(shelf)
            for name, machine, most in (("a", wide_machine(76, False), 300), ("c", NEIGHBOUR, 300), ("c", shelf["c"], 300)):
                with self.assertRaises(TooMany) as caught:
                    shelf.replace(name, machine)
                self.assertEqual(caught.exception.most, most)
            with self.assertRaises(BadMachine):
                shelf.replace("c", None)
            self.assertEqual(undone(shelf), before)
        self.assertIsNotNone(parting_in_sum(NEIGHBOUR, SILENT))

    def test_undo_of_each_deed(self):
        for shelf in both():
            self.assertIs(shelf.undo(), False)
            seen = [shown(shelf)]
            for deed in (lambda: shelf.__setitem__("a", NEIGHBOUR), lambda: shelf.__setitem__("b", SILENT),
                         lambda: shelf.replace("a", NEIGHBOUR_TOO), lambda: shelf.__setitem__("a", FIRST_TWO),
                         lambda: shelf.forget("a"), lambda: shelf.__setitem__("a", SILENT), lambda: shelf.replace("a", SILENT),
                         lambda: shelf.forget("b"), lambda: shelf.forget("a")):
                deed()
                seen.append(shown(shelf))
            for wanted in seen[-2::-1]:
                self.assertIs(shelf.undo(), True)
                self.assertEqual(shown(shelf), wanted)
            self.assertIs(shelf.undo(), False)
            self.assertEqual(len(shelf), 0)

    def test_at_random(self):
        chance = random.Random(451)
        machines = (NEIGHBOUR, NEIGHBOUR_TOO, SILENT)
        for shelf in both():
            model, past = {}, []
            for _ in range(300):
                name, machine = chance.choice(NAMES), chance.choice(machines)
                kind = chance.choice(("put", "forget", "replace", "undo"))
                if kind == "undo":
                    self.assertIs(shelf.undo(), past != [])
                    model = past.pop() if past else model
                elif kind == "put":
                    past.append(dict(model))
                    shelf[name] = model[name] = machine
                elif name not in model:
                    with self.assertRaises(Missing):
                        shelf.forget(name) if kind == "forget" else shelf.replace(name, machine)
                elif kind == "forget":
                    past.append(dict(model))
                    shelf.forget(name)
                    del model[name]
                elif (machine == SILENT) == (model[name] == SILENT):
                    past.append(dict(model))
                    shelf.replace(name, machine)
                    model[name] = machine
                else:
                    with self.assertRaises(Parts):
                        shelf.replace(name, machine)
                self.assertEqual({label: shelf[label] for label in shelf.labels()}, model)
                self.assertEqual(shelf.labels(), tuple(sorted(model)))
                self.assertEqual(len(shelf), len(model))

    def test_equal_ones(self):
        one, other = Shelf(), Shelf()
        self.assertTrue(one == other)
        self.assertFalse(Shelf() == Shelf(strict=False))
        one["a"] = NEIGHBOUR
        self.assertTrue(one != other)
        other["b"] = SILENT
        other["a"] = NEIGHBOUR
        self.assertFalse(one == other)
        other.forget("b")
        self.assertTrue(one == other)
        self.assertFalse(one != other)
        one["b"] = SILENT
        other["b"] = SILENT
        self.assertTrue(one == other)
        other.replace("a", NEIGHBOUR_TOO)
        self.assertFalse(one == other)
        other.undo()
        self.assertTrue(one == other)
        one.forget("b")
        one["c"] = SILENT
        self.assertFalse(one == other)
        for thing in [*wrong_things(), 1, "a", (), {"a": NEIGHBOUR, "c": SILENT}]:
            self.assertIs(one == thing, False)
            self.assertIs(one != thing, True)

    def test_it_is_not_gone_through(self):
        for shelf in both():
            shelf["a"] = NEIGHBOUR
            for call in (iter, list, tuple, sorted, set, dict, lambda one: [x for x in one]):
                with self.assertRaises(TypeError):
                    call(shelf)

    def test_what_was_passed_stays(self):
        machine = copy.deepcopy(NEIGHBOUR)
        shelf = Shelf()
        shelf["a"] = machine
        shelf.replace("a", copy.deepcopy(NEIGHBOUR_TOO))
        shelf.undo()
        self.assertEqual(machine, NEIGHBOUR)
        self.assertEqual(shelf["a"], NEIGHBOUR)
        self.assertIsInstance(shelf.labels(), tuple)
        self.assertEqual(shelf.labels(), shelf.labels())


class Trials(unittest.TestCase):
    def ready(self, strict=True):
        shelf = Shelf(strict=strict)
        shelf["a"] = NEIGHBOUR
        shelf["b"] = SILENT
        shelf.forget("b")
        return shelf

    def test_left_in_the_ordinary_way(self):
        for strict in (True, False):
            shelf = self.ready(strict)
            before = undone(shelf)
            self.assertEqual(len(before), 4)
            with shelf.trial() as one:
                self.assertIs(one, shelf)
                self.assertEqual(shown(one), before[0])
                one["c"] = SILENT
                one.forget("a")
                self.assertEqual(shelf.labels(), ("c",))
            self.assertEqual(undone(shelf), before)
            with shelf.trial():
                while shelf.undo():
                    pass
                shelf["x"] = SILENT
            self.assertEqual(undone(shelf), before)
            self.assertTrue(shelf.undo())
            self.assertEqual(shelf.labels(), ("a", "b"))

    def test_left_by_an_error(self):
        shelf = self.ready()
        before = undone(shelf)
        for error, deed in ((Parts, lambda: shelf.replace("a", SILENT)), (Missing, lambda: shelf["q"]),
                            (BadMachine, lambda: shelf.__setitem__("a", None)), (ZeroDivisionError, lambda: 1 // 0)):
            with self.assertRaises(error):
                with shelf.trial() as one:
                    one.replace("a", NEIGHBOUR_TOO)
                    deed()
            self.assertEqual(undone(shelf), before)

    def test_nested(self):
        shelf = self.ready()
        before = undone(shelf)
        with shelf.trial():
            shelf["c"] = SILENT
            inner = undone(shelf)
            with shelf.trial() as one:
                one.forget("c")
                one.undo()
                one.undo()
                self.assertEqual(one.labels(), ("a",))
            self.assertEqual(undone(shelf), inner)
        self.assertEqual(undone(shelf), before)
        # All is as when the block began, not as when the trial was asked for.
        manager = shelf.trial()
        shelf["d"] = SILENT
        with manager:
            shelf.forget("a")
        self.assertEqual(shelf.labels(), ("a", "d"))


if __name__ == "__main__":
    unittest.main()
