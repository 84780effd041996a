"""[46] texts of MACHINES and PLAIN LISTS, [47] what is no such text."""

import copy
import random
import re
import unittest

from onlyalike.errors import BadList, BadMachine, BadText
from onlyalike.texts import list_text, machine_text, read_list, read_machine
from onlyalike.things import is_plain_list
from made import (
    FIRST_TWO, NEIGHBOUR, NEIGHBOUR_TOO, ask, chain, end, go, one_state, plain_lists, small_machine, wide_machine, wrong_things,
)

SILENT = one_state(go())
SILENT_TEXT = "words\nboxes\nstate on\ngo on\nyes"
NEIGHBOUR_TEXT = """words same
boxes last
state on
ask item last
tell word same
go on
else
keep last
go on
yes"""
# Each QUESTION, each DEED, each thing of a ROW, questions within questions on both sides.
ALL = (("v", "w"), ("a", "b", "c"), (
    ("one",
     ask(("item", "a"),
         ask(("word", "w"), go((("item",), ("box", "b"), ("word", "v")), (("keep", "a"), ("copy", "a", "b"), ("empty", "c")), "two"),
             ask(("empty", "b"), go((), (("empty", "a"),), "one"), go())),
         ask(("like", "a", "b"), ask(("holds", "c", "v"), go(), go((("item",),), (), "two")), go((("box", "a"), ("box", "a"))))),
     ask(("empty", "c"), ask(("like", "c", "a"), end("no", (("word", "w"), ("box", "c"))), end()), ask(("holds", "a", "w"), end("no"), end()))),
    ("two", go((), (), "one"), end("yes", (("box", "c"),))),
    ("on", go(), end())))
ALL_TEXT = """words v w
boxes a b c
state one
ask item a
ask word w
keep a
copy a b
empty c
tell item
tell box b
tell word v
go two
else
ask empty b
empty a
go one
else
go on
else
ask like a b
ask holds c v
go on
else
tell item
go two
else
tell box a
tell box a
go on
ask empty c
ask like c a
tell word w
tell box c
no
else
yes
else
ask holds a w
no
else
yes
state two
go one
tell box c
yes
state on
go on
yes"""

WORD = "[a-z]{1,6}"
# Each kind of line as a pattern, and lines of this kind from whose ends any beginning can be completed.
KINDS = {
    "words": (f"words( {WORD})*", "words a"), "boxes": (f"boxes( {WORD})*", "boxes a"), "state": (f"state {WORD}", "state a"),
    "else": ("else", "else"), "go": (f"go {WORD}", "go a"), "yes": ("yes", "yes"), "no": ("no", "no"),
    "keep": (f"keep {WORD}", "keep a"), "copy": (f"copy {WORD} {WORD}", "copy a a"), "empty": (f"empty {WORD}", "empty a"),
    "tell item": ("tell item", "tell item"), "tell box": (f"tell box {WORD}", "tell box a"),
    "tell word": (f"tell word {WORD}", "tell word a"), "ask item": (f"ask item {WORD}", "ask item a"),
    "ask word": (f"ask word {WORD}", "ask word a"), "ask empty": (f"ask empty {WORD}", "ask empty a"),
    "ask like": (f"ask like {WORD} {WORD}", "ask like a a"), "ask holds": (f"ask holds {WORD} {WORD}", "ask holds a a"),
}
ENDINGS = sorted({sample[at:] for _, sample in KINDS.values() for at in range(len(sample) + 1)})
DEEDS = ("keep", "copy", "empty")
ASKS = ("ask empty", "ask like", "ask holds")


def may_begin(beginning, kinds):
    """Whether some line of these kinds begins so."""
    return any(re.fullmatch(KINDS[kind][0], beginning + ending) for kind in kinds for ending in ENDINGS)


def next_kinds(now):
    """The kinds of lines that can stand next; now is where one is in a text."""
    part, phase, open_asks = now
    if part == "head":
        return (phase,)
    if part == "state":
        return ("state",)
    if phase == "else":
        return ("else",)
    kinds = ["tell box", "tell word"]
    if part == "item":
        kinds += ["tell item", "go"] + (list(DEEDS) if phase != "tells" else [])
    else:
        kinds += ["yes", "no"]
    if phase == "tree" and len(open_asks) < 39:
        kinds += ASKS + (("ask item", "ask word") if part == "item" else ())
    return tuple(kinds)


def behind(now, kind):
    """Where one is behind a line; open_asks tells of each question whether its YES is still read."""
    part, phase, open_asks = now
    if kind in ("words", "boxes"):
        return ("head", "boxes", ()) if kind == "words" else ("state", None, ())
    if kind == "state":
        return "item", "tree", ()
    if kind.startswith("ask"):
        return part, "tree", (*open_asks, True)
    if kind == "else":
        return part, "tree", (*open_asks[:-1], False)
    if kind in DEEDS:
        return part, "deeds", open_asks
    if kind.startswith("tell"):
        return part, "tells", open_asks
    while open_asks and not open_asks[-1]:
        open_asks = open_asks[:-1]
    if open_asks:
        return part, "else", open_asks
    return ("end", "tree", ()) if part == "item" else ("state", "more", ())


def fault_of(text):
    """The (line, place) at which a text is no text of a MACHINE, or None, by the document's words."""
    now = ("head", "words", ())
    lines = text.split("\n")
    for number, line in enumerate(lines):
        kinds = next_kinds(now)
        fitting = [kind for kind in kinds if re.fullmatch(KINDS[kind][0], line)]
        if not fitting:
            at = 0
            while at < len(line) and may_begin(line[:at + 1], kinds):
                at += 1
            return number, at
        now = behind(now, fitting[0])
    return None if now == ("state", "more", ()) else (len(lines), 0)


def deep_text(item_deep, end_deep):
    """A text with TREEs that are so deep."""
    item = "\n".join(["ask item a", "go on", "else"] * (item_deep - 1) + ["go on"])
    ending = "\n".join(["ask empty a"] * (end_deep - 1) + ["yes"] + ["else", "no"] * (end_deep - 1))
    return f"words\nboxes a\nstate on\n{item}\n{ending}"


class Texts(unittest.TestCase):
    def test_by_hand(self):
        for machine, text in ((SILENT, SILENT_TEXT), (NEIGHBOUR, NEIGHBOUR_TEXT), (ALL, ALL_TEXT)):
            self.assertEqual(machine_text(machine), text)
            self.assertEqual(read_machine(text), machine)
            self.assertIsNone(fault_of(text))

    def test_there_and_back(self):
        chance = random.Random(461)
        for machine in [FIRST_TWO, NEIGHBOUR_TOO, wide_machine(80, False), one_state(chain(24, go(), ("word", "w")), None, ("w",))] + [
                small_machine(chance) for _ in range(200)]:
            text = machine_text(machine)
            self.assertEqual(read_machine(text), machine)
            self.assertEqual(machine_text(read_machine(text)), text)
            self.assertIsNone(fault_of(text))

    def test_texts_of_lists(self):
        self.assertEqual(list_text(NEIGHBOUR, ()), "")
        self.assertEqual(list_text(NEIGHBOUR, (0, "same", 1, 0)), "0 same 1 0")
        self.assertEqual(read_list(NEIGHBOUR, "0 same 1 0"), (0, "same", 1, 0))
        self.assertEqual(read_list(NEIGHBOUR, ""), ())
        for machine in (SILENT, NEIGHBOUR, ALL):
            for items in plain_lists(machine[0], 3):
                self.assertEqual(read_list(machine, list_text(machine, items)), items)
        long = tuple(range(1000))
        self.assertEqual(read_list(SILENT, list_text(SILENT, long)), long)
        self.assertTrue(list_text(SILENT, long).endswith(" 998 999"))

    def test_what_has_no_text(self):
        for thing in [*wrong_things(), 1, "ab", (1,), (0, 2), ("a",), ("0",), (True,), (None,), [0], (0,) * 1001, tuple(range(1001))]:
            with self.assertRaises(BadList) as caught:
                list_text(NEIGHBOUR, thing)
            self.assertIs(caught.exception.given, thing)
        for call in (machine_text, lambda thing: list_text(thing, thing), lambda thing: read_list(thing, thing)):
            for thing in [*wrong_things(), 1, "a", ()]:
                with self.assertRaises(BadMachine) as caught:
                    call(thing)
                self.assertEqual(caught.exception.place, ())

    def test_nothing_is_changed(self):
        machine = copy.deepcopy(ALL)
        self.assertEqual(machine_text(machine), machine_text(machine))
        self.assertEqual(machine, ALL)
        self.assertEqual(read_machine(ALL_TEXT), read_machine(ALL_TEXT))


class BadTexts(unittest.TestCase):
    def refused(self, text, line, place):
        with self.assertRaises(BadText) as caught:
            read_machine(text)
        self.assertEqual((caught.exception.line, caught.exception.place), (line, place), text)
        if isinstance(text, str):
            self.assertEqual(fault_of(text), (line, place), text)

    def none(self, text, place):
        with self.assertRaises(BadMachine) as caught:
            read_machine(text)
        self.assertEqual(caught.exception.place, place)
        self.assertIsNone(fault_of(text))

    def test_no_string(self):
        for thing in [*wrong_things(), 1, (), ("words",)]:
            self.refused(thing, -1, -1)
            with self.assertRaises(BadText) as caught:
                read_list(NEIGHBOUR, thing)
            self.assertEqual((caught.exception.line, caught.exception.place), (-1, -1))

    def test_the_first_lines(self):
        self.refused("", 0, 0)
        self.refused("word", 0, 4)
        self.refused("Words", 0, 0)
        self.refused("wordsa", 0, 5)
        self.refused("words ", 0, 6)
        self.refused("words a ", 0, 8)
        self.refused("words  a", 0, 6)
        self.refused("words a  b", 0, 8)
        self.refused("words abcdef b1", 0, 14)
        self.refused("words abcdefg", 0, 12)
        self.refused("words a0", 0, 7)
        self.refused("words A", 0, 6)
        self.refused(" words", 0, 0)
        self.refused("boxes", 0, 0)
        self.refused("words", 1, 0)
        self.refused("words a b", 1, 0)
        self.refused("words\n", 1, 0)
        self.refused("words\nwords", 1, 0)
        self.refused("words\nbox", 1, 3)
        self.refused("words\nboxes", 2, 0)
        self.refused("words\nboxes\n", 2, 0)
        self.refused("words\nboxes\nstate", 2, 5)
        self.refused("words\nboxes\nstate ", 2, 6)
        self.refused("words\nboxes\nstate a b", 2, 7)
        self.refused("words\nboxes\nstate a", 3, 0)
        self.refused("words\nboxes\ngo on", 2, 0)

    def test_lines_of_an_item(self):
        start = "words w\nboxes a b\nstate on\n"
        for line, place in (("", 0), ("ask", 3), ("ask ", 4), ("ask x", 4), ("ask i", 5), ("ask items", 8), ("ask item", 8),
                            ("ask item ", 9), ("ask item a ", 10), ("ask item a b", 10), ("ask item  a", 9), ("ask like a", 10),
                            ("ask like a ", 11), ("ask like a b c", 12), ("ask holds a", 11), ("ask word", 8), ("ask word abcdefg", 15),
                            ("ask empty A", 10), ("tell", 4), ("tell a", 5), ("tell item ", 9), ("tell item a", 9), ("tell box", 8),
                            ("tell word", 9), ("tell word w w", 11), ("keep", 4), ("keep a b", 6), ("copy a", 6), ("copy a b c", 8),
                            ("empty", 5), ("go", 2), ("go ", 3), ("go on on", 5), ("goon", 2), ("else", 1), ("els", 1), ("yes", 0),
                            ("no", 0), ("state on", 0), ("e", 1), ("a", 1), ("t", 1), ("keep 1", 5), ("tell  item", 5), ("go\ton", 2)):
            self.refused(start + line, 3, place)
            self.refused(start + line + "\ngo on\nyes", 3, place)
            self.refused(start + "ask item a\n" + line, 4, place)
        for line, number, place in (("ask item a", 4, 0), ("ask item a\ngo on", 5, 0), ("ask item a\ngo on\nelse", 6, 0),
                                    ("ask item a\ngo on\ngo on", 5, 0), ("ask item a\ngo on\nyes", 5, 0), ("keep a", 4, 0),
                                    ("tell item", 4, 0), ("go on", 4, 0), ("go on\nelse", 4, 0), ("go on\ngo on", 4, 0),
                                    ("ask item a\ngo on\nel", 5, 2), ("ask item a\ngo on\nelse ", 5, 4)):
            self.refused(start + line, number, place)

    def test_deeds_stand_ahead_of_what_is_told(self):
        start = "words w\nboxes a b\nstate on\n"
        for deed in ("keep a", "copy a b", "empty a"):
            self.refused(start + "tell item\n" + deed, 4, 0)
            self.refused(start + deed + "\ntell item\n" + deed, 5, 0)
            self.refused(start + deed + "\nask item a", 4, 0)
            self.refused(start + deed + "\nyes", 4, 0)
        self.refused(start + "tell item\nask item a", 4, 0)
        self.refused(start + "tell item\ntell", 4, 4)

    def test_lines_of_an_end(self):
        start = "words w\nboxes a b\nstate on\ngo on\n"
        for line, place in (("ask item a", 4), ("ask word w", 4), ("tell item", 5), ("keep a", 0), ("copy a b", 0), ("empty a", 0),
                            ("go on", 0), ("state on", 0), ("else", 0), ("ask", 3), ("ask empty", 9), ("ask empty a b", 11),
                            ("ask like a", 10), ("ask holds a w w", 13), ("tell box", 8), ("tell b", 6), ("ye", 2), ("yess", 3),
                            ("yes ", 3), ("n", 1), ("not", 2), ("", 0)):
            self.refused(start + line, 4, place)
            self.refused(start + "ask empty a\n" + line, 5, place)
        for deed in ("keep a", "copy a b", "empty a"):
            self.refused(start + "tell box a\n" + deed, 5, 0)
        self.refused(start + "tell box a\nask empty a", 5, 0)
        self.refused(start + "tell box a", 5, 0)
        self.refused(start + "ask empty a\nyes", 6, 0)
        self.refused(start + "ask empty a\nyes\nno", 6, 0)

    def test_behind_the_end(self):
        self.refused(SILENT_TEXT + "\n", 5, 0)
        self.refused(SILENT_TEXT + "\n\n", 5, 0)
        self.refused(SILENT_TEXT + "\nyes", 5, 0)
        self.refused(SILENT_TEXT + "\nelse", 5, 0)
        self.refused(SILENT_TEXT + "\nstate", 5, 5)
        self.refused(SILENT_TEXT + "\nstate two", 6, 0)
        self.refused(SILENT_TEXT + "\nstate two\ngo on", 7, 0)
        self.refused(SILENT_TEXT + " ", 4, 3)
        self.assertEqual(len(read_machine(SILENT_TEXT + "\nstate two\ngo on\nno")[2]), 2)

    def test_deep_trees(self):
        self.none(deep_text(40, 1), (2, 0, 1))
        self.none(deep_text(1, 40), (2, 0, 2))
        self.none(deep_text(40, 40), (2, 0, 1))
        self.none(deep_text(25, 24), (2, 0, 1))
        self.none(deep_text(24, 25), (2, 0, 2))
        self.assertEqual(len(read_machine(deep_text(24, 24))[2]), 1)
        # The fortieth question of each cannot stand.
        self.refused(deep_text(41, 1), 3 + 39 * 3, 0)
        self.refused(deep_text(1, 41), 4 + 39, 0)
        self.refused(deep_text(60, 60), 3 + 39 * 3, 0)

    def test_what_is_no_machine(self):
        self.none("words b a\nboxes\nstate on\ngo on\nyes", (0,))
        self.none("words a b c d e\nboxes\nstate on\ngo on\nyes", (0,))
        self.none("words\nboxes a a\nstate on\ngo on\nyes", (1,))
        self.none("words\nboxes" + " a" * 1000 + "\nstate on\ngo on\nyes", (1,))
        self.none(SILENT_TEXT + "\nstate on\ngo on\nyes", (2, 1))
        self.none("\n".join([SILENT_TEXT] + [f"state {one}{two}\ngo on\nyes" for one in "abcdefgh" for two in "abcdefghij"]), (2,))
        self.none("words\nboxes\nstate on\ngo off\nyes", (2, 0, 1))
        self.none("words\nboxes\nstate on\nask item a\ngo on\nelse\ngo on\nyes", (2, 0, 1))
        self.none("words\nboxes a\nstate on\ngo on\nask holds a w\nyes\nelse\nno", (2, 0, 2))
        self.none("words\nboxes a\nstate on\nkeep a\nempty a\ngo on\nyes", (2, 0, 1))
        self.none("words\nboxes\nstate on\n" + "tell item\n" * 10 + "go on\nyes", (2, 0, 1))
        self.none("words w\nboxes\nstate on\ngo on\n" + "tell word w\n" * 10 + "yes", (2, 0, 2))

    def test_texts_that_are_changed(self):
        chance = random.Random(471)
        texts = [SILENT_TEXT, NEIGHBOUR_TEXT, ALL_TEXT, machine_text(FIRST_TWO)]
        lines = [line for text in texts for line in text.split("\n")]
        told = {}
        for _ in range(4000):
            text = chance.choice(texts)
            if chance.random() < 0.5:
                at = chance.randrange(len(text) + 1)
                new = chance.choice(("", " ", "\n", "a", "z", "0", "A", chance.choice(lines), "  "))
                text = text[:at] + new + text[at + chance.choice((0, 0, 1, 1, 2, 9)):]
            else:
                parts = text.split("\n")
                at = chance.randrange(len(parts))
                parts[at:at + chance.choice((0, 1, 1, 2))] = chance.choice(([], [""], [chance.choice(lines)], [chance.choice(lines)] * 2))
                text = "\n".join(parts)
            fault = fault_of(text)
            try:
                found = read_machine(text)
                self.assertEqual(machine_text(found), text)
                self.assertIsNone(fault)
                told["fine"] = True
            except BadMachine:
                self.assertIsNone(fault)
                told["none"] = True
            except BadText as error:
                self.assertEqual((error.line, error.place), fault, text)
                told["end" if fault[0] == text.count("\n") + 1 else min(fault[1], 3)] = True
        self.assertEqual(len(told), 7, told)


class BadLists(unittest.TestCase):
    def refused(self, text, line, place):
        with self.assertRaises(BadText) as caught:
            read_list(NEIGHBOUR, text)
        self.assertEqual((caught.exception.line, caught.exception.place), (line, place), text)

    def none(self, text, items):
        with self.assertRaises(BadList) as caught:
            read_list(NEIGHBOUR, text)
        self.assertEqual(caught.exception.given, items)

    def test_by_hand(self):
        for text, place in ((" ", 0), ("0 ", 2), (" 0", 0), ("0  1", 2), ("00", 1), ("01", 1), ("0 01", 3), ("012", 1), ("1234", 3),
                            ("0 1234", 5), ("0 1000", 5), ("-1", 0), ("+1", 0), ("1a", 1), ("a1", 1), ("same0", 4), ("abcdefg", 6),
                            ("A", 0), ("0,1", 1), ("0 same ", 7), ("0 same 1-", 8), ("0a", 1), ("\t", 0), ("0\t1", 1)):
            self.refused(text, 0, place)
            self.refused(text + "\n0", 0, place)

    def test_one_line(self):
        for text in ("\n", "0\n", "0\n1", "\n0", "0\n\n", "0\n ", "0 1\nx y"):
            self.refused(text, 1, 0)

    def test_what_is_no_plain_list(self):
        self.none("1", (1,))
        self.none("0 2", (0, 2))
        self.none("a", ("a",))
        self.none("0 same 999", (0, "same", 999))
        self.none(" ".join(["0"] * 1001), (0,) * 1001)
        self.none("none", ("none",))
        self.assertEqual(read_list(NEIGHBOUR, " ".join(["0"] * 1000)), (0,) * 1000)

    def test_at_random(self):
        chance = random.Random(472)
        told = {}
        item = "([a-z]{1,6}|0|[1-9][0-9]{0,2})"
        for _ in range(3000):
            text = "".join(chance.choice(("0", "0", "1", "2", " ", " ", "same", "a", "9", "-")) for _ in range(chance.randint(0, 7)))
            if re.fullmatch(f"({item}( {item})*)?", text):
                items = tuple(x if x.isalpha() else int(x) for x in text.split())
                told["list", is_plain_list(NEIGHBOUR[0], items)] = True
                if is_plain_list(NEIGHBOUR[0], items):
                    self.assertEqual(read_list(NEIGHBOUR, text), items)
                else:
                    self.none(text, items)
            else:
                at = 0
                while at < len(text) and any(re.fullmatch(f"({item} )*{item}", text[:at + 1] + more) for more in ("", "a")):
                    at += 1
                self.refused(text, 0, at)
                told["text", at == len(text)] = True
        self.assertEqual(len(told), 4)


if __name__ == "__main__":
    unittest.main()
