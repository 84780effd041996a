"""[36] GUARDS and BREACHES, [37] STANDINGS of a PIPE, a GUARD and what is GIVEN, and PAPERS on them."""

import copy
import itertools
import random
import unittest

from onlyalike.conditions import compile_condition
from onlyalike.errors import BadFlow, BadPaper, BadPipe, BadWords, TooMany
from onlyalike.filters import make_filter
from onlyalike.flows import need_flow
from onlyalike.guards import breach_of, check_guard, guard_paper
from made import NEIGHBOUR_FLOW, YES, Agrees, plain_lists, read, ring, small_flow, told_from, wrong_things

NOW, BACK = ("now",), ("back", 1)
AND = ("and", ())
# Passes all on; leaves out what is like its neighbour ahead; tells each item one item later, the last one at the end.
PASS = ((), ((0, (((None,), 0, ()),), YES),))
NO_REPEATS = make_filter((((("not", ("like", NOW, BACK)), (NOW,)),), ()))
LATER = make_filter((((AND, (BACK,)),), (BACK,)))
AT_END = make_filter((((AND, ()),), (("word", "end"),)))
PUT_X = make_filter((((AND, (("word", "x"), NOW)),), ()))
SILENT = ((), ((0, (((), 0, ()),), YES),))
# Keeps the first item for good, and tells it at the end.
FIRST = ((), ((0, (((), 1, (None,)),), YES), (1, (((), 1, (0,)), ((), 1, (0,))), ("yes", (0,)))))
ALWAYS = SILENT
NEVER = ((), ((0, (((), 0, ()),), ("no", ())),))
REPEATS_NONE = compile_condition(("all", ("not", ("like", NOW, BACK))))
NO_A = compile_condition(("all", ("not", ("is", NOW, "a"))))
NO_END = compile_condition(("all", ("not", ("is", NOW, "end"))))
NOT_EMPTY = compile_condition(("some", AND))
HAS_A = compile_condition(("some", ("is", NOW, "a")))


def words_of(*flows):
    return tuple(sorted({word for flow in flows if flow for word in flow[0]}))


def is_breach(pipe, guard, given, items):
    """Whether a list is none to which the PIPE KEEPS TO the GUARD, by the document's words."""
    told = items
    for flow in pipe:
        rows, _, last = told_from(flow, 0, [], told)
        told = tuple(x for row in rows for x in row) + last
    return told_from(guard, 0, [], told)[1] == "no" and (given is None or told_from(given, 0, [], items)[1] == "yes")


def numbered_parts(words, parts):
    """A STANDING with numbers by first coming."""
    names = []
    for _, held in parts:
        names += [x for x in held if x not in words and x not in names]
    return tuple((place, tuple(x if x in words else names.index(x) for x in held)) for place, held in parts)


def standing_behind(pipe, guard, given, standing, item):
    """The STANDING behind an item, by the document's words."""
    items, parts = [item], []
    for flow, (place, held) in zip((*pipe, guard), standing):
        items, place, held = read(flow, place, held, items)
        parts.append((place, held))
    if given is not None:
        parts.append(read(given, *standing[-1], [item])[1:])
    return numbered_parts(words_of(*pipe, guard, given), parts)


def standings_behind(pipe, guard, given, standing):
    fresh = 1 + max([x for _, held in standing for x in held if isinstance(x, int)], default=-1)
    return [standing_behind(pipe, guard, given, standing, item)
            for item in [*words_of(*pipe, guard, given), *range(fresh + 1)]]


def ends_well(pipe, guard, given, standing):
    items = []
    for flow, (place, held) in zip(pipe, standing):
        items, place, held = read(flow, place, held, items)
        items += [x if isinstance(x, str) else held[x] for x in flow[1][place][2][1]]
    _, place, _ = read(guard, *standing[len(pipe)], items)
    return guard[1][place][2][0] == "yes" or (given is not None and given[1][standing[-1][0]][2][0] == "no")


def all_standings(pipe, guard, given, start=None):
    """All STANDINGS to which one comes, from the first one on."""
    first = start or ((0, ()),) * (len(pipe) + (1 if given is None else 2))
    seen = [first]
    for standing in seen:
        seen += [x for x in dict.fromkeys(standings_behind(pipe, guard, given, standing)) if x not in seen]
    return seen


def holds(pipe, guard, given, standings):
    """Whether ("closed", STANDINGS) holds, by the document's words."""
    return (len(set(standings)) == len(standings) and
            ((0, ()),) * (len(pipe) + (1 if given is None else 2)) in standings and
            all(x in standings for one in standings for x in standings_behind(pipe, guard, given, one)) and
            all(ends_well(pipe, guard, given, one) for one in standings))


def some_case(chance):
    pipe = tuple(small_flow(chance, 3, 2) for _ in range(chance.randint(1, 2)))
    # Many of the guards say "no" seldom.
    words, places = small_flow(chance, 4, 2)
    guard = words, tuple((many, turns, (chance.choice(("yes", "yes", end[0])), end[1])) for many, turns, end in places)
    return pipe, guard, small_flow(chance, 3, 1) if chance.random() < 0.5 else None


class Breaches(unittest.TestCase):
    def breach(self, pipe, guard, given, *wanted):
        found = breach_of(pipe, guard, given)
        self.assertIn(found, wanted)
        word, told = paper = guard_paper(pipe, guard, given)
        if found is None:
            self.assertEqual(word, "closed")
        else:
            self.assertEqual(paper[:1] + (len(told),), ("list", len(found)))
            self.assertTrue(is_breach(pipe, guard, given, found))
        self.assertEqual(check_guard(pipe, guard, given, paper), word)

    def test_by_hand(self):
        self.breach((PASS,), ALWAYS, None, None)
        self.breach((PASS,), NEVER, None, ())
        self.breach((PASS,), REPEATS_NONE, None, (0, 0))
        self.breach((NO_REPEATS,), REPEATS_NONE, None, None)
        self.breach((PUT_X, PASS), REPEATS_NONE, None, ("x",))
        self.breach((PUT_X, NO_REPEATS), REPEATS_NONE, None, None)
        self.breach((NO_REPEATS, PUT_X), REPEATS_NONE, None, ("x",))
        self.breach((PASS,), NO_A, None, ("a",))
        self.breach((SILENT,), NO_A, None, None)
        self.breach((NEIGHBOUR_FLOW,), NOT_EMPTY, None, ())
        self.breach((NEIGHBOUR_FLOW, PASS), compile_condition(("all", ("not", ("is", NOW, "same")))), None,
                    ("same", "same"), (0, 0))

    def test_several_unlike_things(self):
        self.breach((PASS,), compile_condition(("all", ("like", NOW, ("first",)))), None, (0, 1))
        self.breach((NO_REPEATS, LATER), compile_condition(("all", ("like", NOW, ("first",)))), HAS_A, ("a", 0), (0, "a"))
        self.breach((PASS,), compile_condition(("all", ("or", (("like", NOW, ("back", 1)), ("like", NOW, ("back", 2)), (
            "none", ("back", 2)))))), None, (0, 1, 2), (0, 0, 1), ("a", 0, 1))
        unlike = ("and", tuple(("not", ("like", NOW, ("back", at))) for at in (1, 2, 3)))
        self.breach((PASS,), compile_condition(("all", ("not", ("and", (unlike, ("not", ("none", ("back", 3)))))))),
                    compile_condition(("all", ("not", ("or", tuple(("like", NOW, ("back", at)) for at in (1, 2)))))), (0, 1, 2, 3))

    def test_what_is_told_behind_the_end(self):
        self.breach((LATER,), NO_A, None, ("a",))
        self.breach((AT_END,), NO_END, None, ())
        self.breach((AT_END, LATER), NO_END, None, ())
        self.breach((AT_END, SILENT), NO_END, None, None)
        self.breach((LATER, LATER), REPEATS_NONE, None, (0, 0))
        self.breach((FIRST,), compile_condition(("all", ("not", ("is", NOW, "a")))), None, ("a",))
        # Rows and what comes behind the end are one list.
        both = make_filter((((AND, (NOW,)),), (BACK,)))
        self.breach((both,), REPEATS_NONE, None, (0,), ("a",))

    def test_the_verdicts_of_the_stages_do_not_matter(self):
        no = ((), ((0, (((None,), 0, ()),), ("no", ())),))
        self.breach((no,), ALWAYS, None, None)
        self.breach((no, PASS), REPEATS_NONE, None, (0, 0))
        self.breach((PASS, no), NO_A, None, ("a",))

    def test_what_is_given(self):
        self.breach((PASS,), NO_A, NO_A, None)
        self.breach((PASS,), NO_A, ALWAYS, ("a",))
        self.breach((PASS,), NEVER, NEVER, None)
        self.breach((PASS,), REPEATS_NONE, HAS_A, ("a", "a"))
        self.breach((PASS,), NO_A, NOT_EMPTY, ("a",))
        self.breach((SILENT,), NOT_EMPTY, NOT_EMPTY, (0,))
        self.breach((SILENT,), NOT_EMPTY, compile_condition(("least", 3, ("like", NOW, ("first",)))), (0, 0, 0))
        # What is GIVEN reads the list, not what is told.
        self.breach((PUT_X,), NO_A, compile_condition(("all", ("not", ("is", NOW, "x")))), ("a",))
        self.breach((NO_REPEATS,), NOT_EMPTY, REPEATS_NONE, ())
        self.breach((NO_REPEATS,), REPEATS_NONE, NEVER, None)
        # What it keeps is its own.
        self.breach((SILENT,), NEVER, FIRST, ())

    def test_against_all_short_lists(self):
        chance = random.Random(361)
        told = {}
        for _ in range(400):
            pipe, guard, given = some_case(chance)
            found = breach_of(pipe, guard, given)
            shortest = None
            for items in plain_lists(words_of(*pipe, guard, given), 3):
                if is_breach(pipe, guard, given, items):
                    shortest = items
                    break
            if found is None or len(found) > 3:
                self.assertIsNone(shortest)
            else:
                self.assertEqual(len(found), len(shortest))
            if found is not None:
                self.assertTrue(is_breach(pipe, guard, given, found))
            self.assertEqual(breach_of(pipe, guard, given), found)
            told[None if found is None else len(found)] = True
        self.assertTrue({None, 0, 1, 2} <= set(told), told)

    def test_more_than_a_thousand_items(self):
        # 41 times 37 of "a" and of things are wanted; each of both is counted by one.
        guard = ring(41, "a", ("a",), (40,))
        given = need_flow((("a",), tuple((0, (((), (at + 1) % 37, ()), ((), at, ())), ("yes" if at == 36 else "no", ()))
                                         for at in range(37))))
        self.breach((PASS,), guard, given, ("a",) * (41 * 37 - 1))

    def test_eight_and_nine_words(self):
        def asks(words):
            return need_flow((words, ((0, (((), 0, ()),) * (len(words) + 1), YES),)))

        letters = tuple("abcdefghi")
        for pipe, guard, given in (
                ((asks(letters[:3]), asks(letters[2:5])), asks(letters[5:7]), asks(letters[7:8])),
                ((asks(letters[:8]),), asks(letters[:8]), asks(letters[:8])), ((PASS,), asks(letters[:8]), None),
                ((PASS,), asks(letters[:4]), asks(letters[4:8]))):
            self.assertEqual(words_of(*pipe, guard, given), letters[:8])
            self.assertIsNone(breach_of(pipe, guard, given))
            self.assertEqual(check_guard(pipe, guard, given, guard_paper(pipe, guard, given)), "closed")
        for pipe, guard, given in (
                ((asks(letters[:3]), asks(letters[2:5])), asks(letters[5:7]), asks(letters[7:])),
                ((asks(letters[:8]),), asks(letters[8:]), None), ((asks(letters[1:]),), PASS, asks(letters[:3])),
                ((PASS,), asks(letters[:4]), asks(letters[4:]))):
            for call in (breach_of, guard_paper, lambda *rest: check_guard(*rest, None)):
                with self.assertRaises(BadWords) as caught:
                    call(pipe, guard, given)
                self.assertEqual(caught.exception.given, letters)

    def test_wrong_arguments(self):
        calls = (breach_of, guard_paper, lambda *rest: check_guard(*rest, None))
        bad = ((), ((1, (), YES),))
        for call in calls:
            for thing in [*wrong_things(), 1, "a", (), (PASS,) * 5]:
                with self.assertRaises(BadPipe) as caught:
                    call(thing, thing, thing)
                self.assertIsNone(caught.exception.number)
                if thing is not None:
                    with self.assertRaises(BadPipe) as caught:
                        call((PASS, thing), thing, thing)
                    self.assertEqual(caught.exception.number, 1)
                    with self.assertRaises(BadFlow) as caught:
                        call((PASS,), PASS, thing)
                    self.assertIn(caught.exception.place, ((), (0,)))
                with self.assertRaises(BadFlow) as caught:
                    call((PASS,), thing, thing)
                self.assertIn(caught.exception.place, ((), (0,)))
            with self.assertRaises(BadFlow) as caught:
                call((PASS,), PASS, bad)
            self.assertEqual(caught.exception.place, (1, 0))
            with self.assertRaises(BadPipe) as caught:
                call((bad,), bad, bad)
            self.assertEqual(caught.exception.number, 0)


class Papers(unittest.TestCase):
    def refused(self, part, *rest):
        with self.assertRaises(BadPaper) as caught:
            check_guard(*rest)
        self.assertEqual(caught.exception.part, part, rest)

    def test_standings_by_hand(self):
        # The PLACES of NO_REPEATS: nothing came; one item is kept.
        self.assertEqual([place[0] for place in NO_REPEATS[1]], [0, 1])
        self.assertEqual(guard_paper((SILENT,), ALWAYS, None), ("closed", (((0, ()), (0, ())),)))
        word, standings = guard_paper((NO_REPEATS,), ALWAYS, None)
        self.assertEqual((word, set(standings)), ("closed", {((0, ()), (0, ())), ((1, (0,)), (0, ()))}))
        # One thing that is held in two places; two things; in what is GIVEN, too.
        word, standings = guard_paper((FIRST,), ALWAYS, LATER)
        self.assertEqual([place[0] for place in LATER[1]], [0, 1])
        self.assertEqual((word, set(standings)), ("closed", {
            ((0, ()), (0, ()), (0, ())), ((1, (0,)), (0, ()), (1, (0,))), ((1, (0,)), (0, ()), (1, (1,)))}))
        self.assertEqual(check_guard((FIRST,), ALWAYS, LATER, (word, standings)), "closed")

    def test_a_word_that_is_held(self):
        # FIRST keeps "a", which is none of its WORDS, but one of those of the GUARD.
        guard = (("a",), ((0, (((), 0, ()), ((), 0, ())), YES),))
        standings = (((0, ()), (0, ())), ((1, ("a",)), (0, ())), ((1, (0,)), (0, ())))
        for some in itertools.permutations(standings):
            self.assertEqual(check_guard((FIRST,), guard, None, ("closed", some)), "closed")
        for at in range(3):
            self.refused("closed", (FIRST,), guard, None, ("closed", standings[:at] + standings[at + 1:]))
            self.refused("closed", (FIRST,), guard, None, ("closed", (*standings, standings[at])))
        word, told = guard_paper((FIRST,), guard, None)
        self.assertEqual((word, set(told)), ("closed", set(standings)))
        # A WORD of its own cannot be held by a FLOW; there is none that is no WORD of any.
        own = (("a",), ((0, (((), 0, ()), ((), 1, (None,))), YES), (1, (((), 1, (0,)),) * 3, YES)))
        self.assertEqual(check_guard((own,), ALWAYS, None, ("closed", (((0, ()), (0, ())), ((1, (0,)), (0, ()))))), "closed")
        for held in (("a",), ("b",), (None,), (True,), (-1,), (1,), (Agrees(),), ([],), ((),), (0, 0), ()):
            self.refused("form", (own,), ALWAYS, None, ("closed", (((0, ()), (0, ())), ((1, held), (0, ())))))

    def test_more_standings_than_are_come_to(self):
        # One from which nothing else comes that is not there.
        guard = (("a",), ((0, (((), 0, ()), ((), 0, ())), YES),))
        met = tuple(all_standings((FIRST, FIRST), guard, None))
        self.assertEqual(check_guard((FIRST, FIRST), guard, None, ("closed", met)), "closed")
        more = all_standings((FIRST, FIRST), guard, None, ((1, (0,)), (1, (0,)), (0, ())))
        self.assertEqual(more, [((1, (0,)), (1, (0,)), (0, ()))])
        lot = (*met, *more, ((1, (0,)), (1, (1,)), (0, ())))
        self.assertEqual(check_guard((FIRST, FIRST), guard, None, ("closed", lot)), "closed")
        # Without the first one.
        self.refused("closed", (FIRST, FIRST), guard, None, ("closed", tuple(more)))
        self.refused("closed", (FIRST,), guard, None, ("closed", ()))

    def test_as_the_document_says(self):
        chance = random.Random(371)
        told = {}
        for _ in range(300):
            case = some_case(chance)
            word, found = paper = guard_paper(*case)
            told[word, min(len(found), 4)] = True
            self.assertEqual(word == "list", breach_of(*case) is not None)
            self.assertEqual(check_guard(*case, paper), word)
            self.assertEqual(guard_paper(*case), paper)
            met = all_standings(*case)
            self.assertEqual(word == "closed", all(ends_well(*case, one) for one in met))
            if word == "closed":
                self.assertEqual(set(found), set(met))
                self.assertTrue(holds(*case, found))
                mixed = chance.sample(found, len(found))
                self.assertEqual(check_guard(*case, ("closed", tuple(mixed))), "closed")
                for at in range(min(len(found), 5)):
                    self.refused("closed", *case, ("closed", found[:at] + found[at + 1:]))
                    self.refused("closed", *case, ("closed", (*found, found[at])))
                for items in plain_lists(words_of(*case[0], *case[1:]), 2):
                    self.refused("list", *case, ("list", items))
            else:
                self.refused("closed", *case, ("closed", tuple(met)))
                for items in plain_lists(words_of(*case[0], *case[1:]), 2):
                    if is_breach(*case, items):
                        self.assertEqual(check_guard(*case, ("list", items)), "list")
                    else:
                        self.refused("list", *case, ("list", items))
        self.assertTrue({("closed", 1), ("closed", 4), ("list", 0), ("list", 1), ("list", 2)} <= set(told), told)

    def test_standings_that_are_changed(self):
        case = (NO_REPEATS, FIRST), REPEATS_NONE, LATER
        word, found = guard_paper(*case)
        self.assertEqual(word, "closed")
        self.assertTrue(all(len(standing) == 4 for standing in found))
        chance = random.Random(372)
        words = words_of(*case[0], *case[1:])
        said = {}
        for _ in range(1500):
            at = chance.randrange(len(found))
            standing = [list(part) for part in found[at]]
            part = chance.choice(standing)
            if chance.random() < 0.4:
                part[0] = chance.choice((part[0] + 1, part[0] - 1, len(case[0][0][1]), 300, True, None, "0"))
            elif chance.random() < 0.8:
                part[1] = tuple(chance.choice((0, 1, 2, 3, "a", True)) for _ in range(chance.randint(0, 2)))
            else:
                standing = standing[:-1] if chance.random() < 0.5 else standing + [(0, ())]
            new = tuple(tuple(part) for part in standing)
            flows = (*case[0], *case[1:])
            by_form = len(new) == 4 and all(
                type(place) is int and 0 <= place < len(flow[1]) and len(held) == flow[1][place][0] == len(set(held))
                and all(type(x) is int for x in held) for flow, (place, held) in zip(flows, new))
            by_form = by_form and numbered_parts(words, new) == new
            lot = found[:at] + (new,) + found[at + 1:]
            if not by_form:
                self.refused("form", *case, ("closed", lot))
            elif holds(*case, lot):
                self.assertEqual(check_guard(*case, ("closed", lot)), "closed")
            else:
                self.refused("closed", *case, ("closed", lot))
            said[by_form, repr(new) == repr(found[at])] = True
        self.assertEqual(set(said), {(True, True), (True, False), (False, False)})

    def test_what_has_no_form(self):
        case = (PASS,), REPEATS_NONE, None
        good = guard_paper((NO_REPEATS,), REPEATS_NONE, None)
        for paper in [*wrong_things(), 1, "list", (), ("list",), ("list", (), ()), ["list", (0, 0)], (Agrees(), (0, 0)),
                      ("lists", (0, 0)), ("list", None), ("list", [0, 0]), ("list", "aa"), ("list", (1, 1)), ("list", (0, 2, 2)),
                      ("list", ("a", "a")), ("list", (True, True)), ("list", (None,)), ("list", (0, Agrees())), ("list", (-1, -1)),
                      ("closed", None), ("closed", "ab"), ("closed", [((0, ()), (0, ()))]), ("closed", {}), ("closed", (None,)),
                      ("closed", (((0, ()),),)), ("closed", (((0, ()),) * 3,)), ("closed", (([0, ()], (0, ())),)),
                      ("closed", ([(0, ()), (0, ())],)), ("closed", (((0, []), (0, ())),)), ("closed", (((0, None), (0, ())),)),
                      ("closed", (((0,), (0, ())),)), ("closed", (((0, (), 1), (0, ())),)), ("closed", (((0, (0,)), (0, ())),)),
                      ("closed", (((1, ()), (0, ())),)), ("closed", (((-1, ()), (0, ())),)), ("closed", ((Agrees(), (0, ())),)),
                      ("closed", (((False, ()), (0, ())),)), ("closed", (((0, ()), (0, ())), ((0, ()), None)))]:
            self.refused("form", *case, paper)
        self.assertEqual(check_guard((NO_REPEATS,), REPEATS_NONE, None, good), "closed")
        self.refused("closed", (PASS,), NEVER, None, ("closed", (((0, ()), (0, ())),)))
        self.refused("form", (PASS,), ALWAYS, ALWAYS, ("closed", (((0, ()), (0, ())),)))
        self.assertEqual(check_guard((PASS,), ALWAYS, ALWAYS, ("closed", (((0, ()),) * 3,))), "closed")

    def test_a_word_of_none_of_the_flows(self):
        self.refused("form", (PASS,), NO_A, HAS_A, ("list", ("b",)))
        self.refused("form", (PASS,), NEVER, None, ("list", ("a",)))
        self.assertEqual(check_guard((PASS,), NO_A, HAS_A, ("list", ("a", 0, "a", 1, 0))), "list")
        self.assertEqual(check_guard((HAS_A,), NEVER, None, ("list", ("a",))), "list")
        self.assertEqual(check_guard((PASS,), NEVER, HAS_A, ("list", ("a",))), "list")

    def test_long_lists(self):
        case = (PASS,), REPEATS_NONE, None
        for items, part in (((0,) * 25000, None), ((0,) * 25001, "form"), (tuple(range(25000)), "list"),
                            (tuple(range(25001)), "form"), ((*range(24999), 24998), None)):
            if part is None:
                self.assertEqual(check_guard(*case, ("list", items)), "list")
            else:
                self.refused(part, *case, ("list", items))

    def test_twenty_thousand_standings(self):
        pipe, given = (ring(160, "a", ("a", "b")),), ring(125, "b", ("a", "b"))
        word, found = paper = guard_paper(pipe, ALWAYS, given)
        self.assertEqual((word, len(found), len(set(found))), ("closed", 20000, 20000))
        self.assertEqual(check_guard(pipe, ALWAYS, given, paper), "closed")
        self.assertIsNone(breach_of(pipe, ALWAYS, given))
        self.refused("closed", pipe, ALWAYS, given, (word, found[:-1]))
        self.refused("closed", pipe, ALWAYS, given, (word, (*found[:-1], found[0])))
        self.refused("form", pipe, ALWAYS, given, (word, (*found, found[0])))
        more = ring(134, "b", ("a", "b"))
        for call in (breach_of, guard_paper):
            with self.assertRaises(TooMany) as caught:
                call((ring(150, "a", ("a", "b")),), ALWAYS, more)
            self.assertEqual(caught.exception.most, 20000)
        # What is checked is no matter of how many there would be.
        self.refused("closed", (ring(150, "a", ("a", "b")),), ALWAYS, more, ("closed", (((0, ()),) * 3,)))
        self.assertEqual(breach_of((ring(150, "a", ("a", "b")),), NEVER, more), ())

    def test_nothing_is_changed(self):
        case = (NO_REPEATS, FIRST), REPEATS_NONE, LATER
        paper = guard_paper(*case)
        kept = copy.deepcopy((case, paper))
        check_guard(*case, paper)
        breach_of(*case)
        self.assertEqual((case, paper), kept)


if __name__ == "__main__":
    unittest.main()
