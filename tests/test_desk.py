"""[49] the DESK."""

import random
import unittest

from onlyalike.counts import count_lists, list_at
from onlyalike.desk import Desk
from onlyalike.errors import BadMachine, BadText
from onlyalike.losses import loss_of
from onlyalike.runner import Runner
from onlyalike.texts import list_text, machine_text
from made import FIRST_TWO, NEIGHBOUR, end, go, machine_pairs, one_state, small_machine, wide_machine, wrong_things

SILENT = one_state(go())
ECHO = one_state(go((("item",), ("item",))))
# Keeps and tells what came last, and tells it and "w" at the end.
LATER = one_state(go((("box", "x"),), (("keep", "x"),)), end("no", (("box", "x"), ("word", "w"))), ("w",), ("x",))
ONE_BOX = ((), ("a", "b"), (("s", go((), (("keep", "b"),), "t"), end()), ("t", go((), (("keep", "a"),), "t"), end("no", (("box", "a"),)))))


def desk_of(machine, *lines):
    desk = Desk(machine_text(machine))
    for line in lines:
        desk.say(line)
    return desk


def shown(desk):
    runner = desk.runner
    return runner.program, runner.fed, runner.told, runner.state_now, runner.boxes_now, runner.journal, runner.copy().redo()


class Lines(unittest.TestCase):
    def says(self, desk, *told):
        for line, wanted in told:
            self.assertEqual(desk.say(line), wanted, line)

    def test_feed_and_row(self):
        self.says(desk_of(NEIGHBOUR), ("feed x", "none"), ("feed x", "same"), ("feed 7", "none"), ("feed 7", "same"),
                  ("feed 07", "no"), ("feed -7", "none"), ("feed same", "none"), ("feed same", "same"), ("fed", "7"),
                  ("row 0", "none"), ("row 1", "same"), ("row 3", "same"), ("row 5", "none"), ("row 6", "same"), ("row 7", "no"),
                  ("row 999", "no"), ("row 01", "no"), ("row -1", "no"), ("row 1000", "no"), ("row", "no"), ("row 1 1", "no"))
        self.says(desk_of(ECHO), ("feed abc", "abc abc"), ("feed 0", "0 0"), ("feed -12", "-12 -12"), ("row 0", "abc abc"), ("row 2", "-12 -12"))
        self.says(desk_of(ECHO), ("row 0", "no"), ("fed", "0"))
        # A number and a word of the same look are unlike; there are no such words.
        desk = desk_of(NEIGHBOUR, "feed 7")
        self.assertEqual(desk.runner.fed, (7,))
        self.assertEqual(desk_of(NEIGHBOUR, "feed seven").runner.fed, ("seven",))

    def test_things(self):
        for thing, wanted in (("a", "a"), ("abcdefghijklmnopqrst", "abcdefghijklmnopqrst"), ("0", 0), ("9", 9), ("123456789", 123456789),
                              ("-1", -1), ("-123456789", -123456789), ("100", 100), ("none", "none"), ("feed", "feed")):
            desk = desk_of(ECHO)
            self.assertEqual(desk.say("feed " + thing), f"{wanted} {wanted}")
            self.assertEqual(desk.runner.fed, (wanted,))
        desk = desk_of(ECHO, "feed a")
        before = shown(desk)
        for thing in ("", "-", "-0", "00", "01", "-01", "1234567890", "-1234567890", "--1", "+1", "1-", "a1", "1a", "A", "aB",
                      "abcdefghijklmnopqrstu", "a-b", "a_b", "a,b", "1.0", "'a'", "a b", " a", "a ", "a\n", "\n", "1\n", "\t", "(1)"):
            self.says(desk, ("feed " + thing, "no"))
        self.assertEqual(shown(desk), before)

    def test_end(self):
        self.says(desk_of(SILENT), ("end", "yes"), ("feed 1", "none"), ("end", "yes"))
        self.says(desk_of(LATER), ("end", "no w"), ("feed 1", "none"), ("end", "no 1 w"), ("feed a", "1"), ("end", "no a w"))

    def test_boxes_state_and_needed(self):
        desk = desk_of(ONE_BOX)
        self.says(desk, ("boxes", "none"), ("state", "s"), ("needed", "none"), ("feed x", "none"), ("boxes", "b:x"), ("state", "t"),
                  ("needed", "none"), ("feed -3", "none"), ("boxes", "a:-3 b:x"), ("needed", "-3"), ("feed 5", "none"),
                  ("boxes", "a:5 b:x"), ("needed", "5"), ("state", "t"))
        self.says(desk_of(FIRST_TWO, "feed b", "feed a", "feed b"), ("boxes", "a:b b:a"), ("needed", "b a"), ("end", "yes b a"),
                  ("state", "on"), ("fed", "3"))

    def test_count_and_list(self):
        desk = desk_of(NEIGHBOUR, "feed 1")
        self.says(desk, ("count yes 3 2", "14"), ("count no 3 2", "0"), ("count yes 0 0", "1"), ("count yes 40 0", "1"),
                  ("count yes 41 0", "no"), ("count yes 0 41", "no"), ("count yes 999 1", "no"), ("count yes 03 2", "no"),
                  ("count yes 3 02", "no"), ("count yes -1 2", "no"), ("count maybe 3 2", "no"), ("count yes 3", "no"),
                  ("count yes 3 2 1", "no"), ("count", "no"), ("count yes x 2", "no"), ("count yes 1000 2", "no"),
                  ("list yes 3 2 13", "0 1 1"), ("list yes 1 1 1", "0"), ("list yes 3 2 0", "same same same"), ("list yes 3 2 14", "no"), ("list yes 0 0 0", "empty"),
                  ("list no 0 0 0", "no"), ("list yes 3 2 013", "no"), ("list yes 3 2 -1", "no"), ("list yes 3 2", "no"),
                  ("list yes 3 2 0 0", "no"), ("list maybe 3 2 0", "no"), ("list yes 41 2 0", "no"), ("list yes 3 41 0", "no"),
                  ("list yes 3 2 " + "9" * 40, "no"), ("list yes 3 2 " + "0" * 40, "no"), ("list yes 03 2 0", "no"), ("list", "no"))
        count = count_lists(NEIGHBOUR, "yes", 40, 40)
        self.says(desk, ("count yes 40 40", str(count)), (f"list yes 40 40 {count}", "no"), (f"list yes 40 40 {count - 1}", " ".join(map(str, range(40)))),
                  (f"list yes 40 40 {count // 2}", list_text(NEIGHBOUR, list_at(NEIGHBOUR, "yes", 40, 40, count // 2))))
        # N has up to 40 figures; one more is no number, though both are too great here.
        self.says(desk, ("list yes 3 2 1" + "0" * 39, "no"), ("list yes 3 2 1" + "0" * 40, "no"))

    def test_kept(self):
        self.says(desk_of(ECHO), ("kept", "yes"), ("kept sum", "yes"))
        self.says(desk_of(SILENT), ("kept", "lost 2"), ("kept sum", "lost 1"))
        self.says(desk_of(FIRST_TWO), ("kept", "lost 6"), ("kept sum", "lost 5"), ("kept  sum", "no"), ("kept sums", "no"),
                  ("kept sum sum", "no"), ("kept ", "no"), ("keeps", "no"))
        for machine, _ in machine_pairs(491, 30):
            for in_sum, line in ((False, "kept"), (True, "kept sum")):
                loss = loss_of(machine, in_sum)
                self.says(desk_of(machine), (line, "yes" if loss is None else f"lost {len(loss[0]) + len(loss[1])}"))

    def test_slim_undo_and_redo(self):
        desk = desk_of(FIRST_TWO)
        self.says(desk, ("undo", "nothing"), ("redo", "nothing"), ("feed 5", "none"), ("slim", "done"), ("boxes", "a:5"), ("undo", "done"),
                  ("redo", "done"), ("redo", "nothing"), ("feed 6", "none"), ("fed", "2"), ("undo", "done"), ("undo", "done"), ("undo", "done"),
                  ("undo", "nothing"), ("fed", "0"), ("redo", "done"), ("fed", "1"), ("feed 7", "none"), ("redo", "nothing"), ("end", "yes 5 7"))
        self.assertEqual(desk.runner.journal, (("feed", 5), ("feed", 7)))
        # "count" and the like are of the MACHINE by which it goes on.
        desk = desk_of(ONE_BOX, "feed x", "feed y", "slim")
        self.says(desk, ("boxes", "a:y"), ("count yes 1 1", "0"), ("count no 2 2", "2"))


class Refused(unittest.TestCase):
    def test_what_is_no_line(self):
        desk = desk_of(FIRST_TWO, "feed a", "feed b", "feed c", "undo")
        before = shown(desk)
        lines = ["", " ", "\n", "  ", "end ", " end", "end\n", "\nend", "end end", "End", "END", "boxes ", "boxes 1", "needed a", "state on",
                 "fed 1", "slim slim", "slim ", "undo 1", "redo redo", "undo\n", "feed", "feed ", "feed  a", "feed a ", "feed a b",
                 "feed\na", "row 0 ", "row  0", "row a", "kept  sum", "kept sum ", "kept\nsum", "count  yes 3 2", "count yes 3 2 ",
                 "list yes 3 2 0 ", "list yes  3 2 0", "journal", "swap", "fed told", "no", "yes", "none", "x", "sum", "end;", "__len__"]
        for line in [*wrong_things(), 1, (), ("end",), *lines]:
            self.assertEqual(desk.say(line), "no", line)
            self.assertEqual(shown(desk), before)
        self.assertEqual(desk.say("redo"), "done")

    def test_what_the_parts_refuse(self):
        wide = wide_machine(76, False)
        desk = desk_of(wide, "feed x", "feed y", "undo")
        before = shown(desk)
        for line in ("needed", "slim", "count yes 1 1", "list yes 1 1 0", "kept", "kept sum", "feed -0", "row 1"):
            self.assertEqual(desk.say(line), "no", line)
            self.assertEqual(shown(desk), before)
        self.assertEqual(desk.say("fed"), "1")
        desk = desk_of(SILENT)
        for number in range(1000):
            self.assertEqual(desk.say(f"feed {number}"), "none")
        before = shown(desk)
        self.assertEqual(desk.say("feed 1"), "no")
        self.assertEqual(desk.say("feed x"), "no")
        self.assertEqual(shown(desk), before)
        self.assertEqual((desk.say("fed"), desk.say("row 999"), desk.say("undo"), desk.say("row 999")), ("1000", "none", "done", "no"))

    def test_what_no_desk_is_made_of(self):
        for thing, kind in [(thing, BadText) for thing in [*wrong_things(), 1, "", NEIGHBOUR, "words", machine_text(SILENT) + "\n"]] + [
                ("words b a\nboxes\nstate on\ngo on\nyes", BadMachine), ("words\nboxes\nstate on\ngo off\nyes", BadMachine)]:
            with self.assertRaises(kind):
                Desk(thing)
        with self.assertRaises(BadText) as caught:
            Desk(None)
        self.assertEqual((caught.exception.line, caught.exception.place), (-1, -1))
        with self.assertRaises(BadMachine) as caught:
            Desk("words\nboxes\nstate on\ngo off\nyes")
        self.assertEqual(caught.exception.place, (2, 0, 1))


class Runners(unittest.TestCase):
    def test_the_very_runner(self):
        desk = desk_of(NEIGHBOUR)
        runner = desk.runner
        self.assertIsInstance(runner, Runner)
        self.assertIs(desk.runner, runner)
        self.assertEqual(runner, Runner(NEIGHBOUR))
        with self.assertRaises(AttributeError):
            desk.runner = Runner(NEIGHBOUR)
        # What is done to it shows, and the other way round.
        runner.feed("some string")
        self.assertEqual((desk.say("fed"), desk.say("needed"), desk.say("boxes")), ("1", "some string", "last:some string"))
        self.assertEqual(desk.say("feed x"), "none")
        self.assertEqual(runner.fed, ("some string", "x"))
        with runner.trial():
            self.assertEqual(desk.say("feed x"), "same")
            self.assertEqual(desk.say("slim"), "done")
        self.assertEqual((desk.say("fed"), runner.program), ("2", NEIGHBOUR))
        self.assertIs(desk.runner, runner)
        other = desk_of(NEIGHBOUR)
        self.assertEqual(other.say("fed"), "0")

    def test_as_the_runner(self):
        chance = random.Random(492)
        for _ in range(30):
            machine = small_machine(chance)
            desk, runner = desk_of(machine), Runner(machine)
            for _ in range(25):
                line = chance.choice(("feed a", "feed b", "feed 1", "feed -1", "slim", "undo", "redo", "feed", "feed -0", "end", "boxes",
                                      "needed", "state", "fed", "row 2"))
                told = desk.say(line)
                head, *rest = line.split(" ")
                wanted = "no"
                if line.startswith("feed ") and line != "feed -0":
                    row = runner.feed(rest[0] if rest[0].isalpha() else int(rest[0]))
                    wanted = " ".join(map(str, row)) or "none"
                elif head == "slim":
                    runner.slim()
                    wanted = "done"
                elif head in ("undo", "redo"):
                    wanted = "done" if getattr(runner, head)() else "nothing"
                elif head == "end":
                    verdict, row = runner.ending()
                    wanted = " ".join([verdict, *map(str, row)])
                elif head == "boxes":
                    wanted = " ".join(f"{box}:{thing}" for box, thing in runner.boxes_now) or "none"
                elif head == "needed":
                    wanted = " ".join(map(str, runner.needed_now())) or "none"
                elif head in ("state", "fed"):
                    wanted = runner.state_now if head == "state" else str(len(runner))
                elif head == "row" and len(runner) > 2:
                    wanted = " ".join(map(str, runner.told[2])) or "none"
                self.assertEqual(told, wanted)
                self.assertEqual(desk.runner, runner)
                self.assertEqual(desk.runner.journal, runner.journal)


if __name__ == "__main__":
    unittest.main()
