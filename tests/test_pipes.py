"""[33] PIPES and their BEHAVIOUR, [34] PIPED, [35] STAGES that MAY CHANGE, or are NEEDLESS."""

import copy
import itertools
import random
import unittest

from onlyalike.alike import flows_alike
from onlyalike.conditions import compile_condition
from onlyalike.errors import BadFlow, BadList, BadPipe, TooMany
from onlyalike.filters import make_filter
from onlyalike.flows import flow_of, need_flow, run_flow
from onlyalike.pipes import may_turn_stages, need_pipe, needless_stages, pipe_as_flow, run_pipe
from made import (
    FIRST_TWO, NEIGHBOUR_FLOW, YES, Agrees, first_ones, one_behind, plain_lists, ring, small_flow, wrong_things,
)

NOW, BACK = ("now",), ("back", 1)
AND = ("and", ())


def tells(parts, words=()):
    """A FLOW that keeps nothing and tells the same at each item, None being the item."""
    turns = [(tuple(word if part is None else part for part in parts), 0, ()) for word in words]
    return need_flow((words, ((0, (*turns, (tuple(parts), 0, ())), YES),)))


SAME = tells((None,))
TWICE = tells((None, None))
NOTHING = tells(())
# Leaves out what is like its neighbour ahead; tells each item one item later, and the last one at the end.
NO_REPEATS = make_filter((((("not", ("like", NOW, BACK)), (NOW,)),), ()))
LATER = make_filter((((AND, (BACK,)),), (BACK,)))
# Tells the first item at the end, and nothing else; tells "end" at the end; leaves out "a".
FIRST_LAST = make_filter((((("or", ()), ()),), (("first",),)))
AT_END = make_filter((((AND, (NOW,)),), (("word", "end"), BACK, ("word", "end"))))
NO_A = make_filter((((("not", ("is", NOW, "a")), (NOW,)),), ()))
# Puts "x" ahead of each item; tells "yes" for each "x", "no" for all else.
PUT_X = make_filter((((AND, (("word", "x"), NOW)),), ()))
# Passes all on, and says "no" if the last item that came is "end".
NO_END = (("end",), ((0, ((("end",), 1, ()), ((None,), 0, ())), YES), (0, ((("end",), 1, ()), ((None,), 0, ())), ("no", ()))))


def by_lists(pipe, things):
    """The BEHAVIOUR of a PIPE, by the whole list that each STAGE tells; each item has the number of what brought it."""
    items = list(enumerate(things))
    verdicts = []
    for stage in pipe:
        rows, verdict, last = run_flow(stage, tuple(thing for _, thing in items))
        verdicts.append(verdict)
        told = [(number, thing) for (number, _), row in zip(items, rows) for thing in row]
        items = told + [(len(things), thing) for thing in last]
    rows = [tuple(thing for at, thing in items if at == number) for number in range(len(things) + 1)]
    return tuple(rows[:-1]), "yes" if set(verdicts) == {"yes"} else "no", rows[-1]


class Run(unittest.TestCase):
    def tells(self, pipe, things, rows, last=(), verdict="yes"):
        self.assertEqual(run_pipe(pipe, things), (rows, verdict, last))
        self.assertEqual(run_flow(pipe_as_flow(pipe), things), (rows, verdict, last))

    def test_one_stage(self):
        for flow in (SAME, TWICE, NO_REPEATS, LATER, NEIGHBOUR_FLOW, flow_of(FIRST_TWO), NO_END):
            for things in plain_lists(flow[0], 4):
                self.tells((flow,), things, *[run_flow(flow, things)[at] for at in (0, 2, 1)])

    def test_rows_of_several_things_are_read_one_by_one(self):
        self.tells((TWICE, TWICE), (5, "b"), ((5,) * 4, ("b",) * 4))
        self.tells((TWICE, NO_REPEATS), (5, 5, 6), ((5,), (), (6,)))
        self.tells((NO_REPEATS, TWICE), (5, 5, 6), ((5, 5), (), (6, 6)))
        self.tells((TWICE, LATER), (5, 6), ((5,), (5, 6)), (6,))
        self.tells((TWICE, TWICE, TWICE, NO_REPEATS), (1, 2), ((1,), (2,)))
        self.tells((TWICE,) * 4, (1, "1"), ((1,) * 16, ("1",) * 16))

    def test_what_is_told_at_the_end_is_read_behind_it(self):
        self.tells((LATER, LATER), (), ())
        self.tells((LATER, LATER), (5,), ((),), (5,))
        self.tells((LATER, LATER), (5, 6, 7), ((), (), (5,)), (6, 7))
        self.tells((LATER, LATER, LATER), (5, 6, 7, 8), ((), (), (), (5,)), (6, 7, 8))
        self.tells((LATER, TWICE), (5, 6), ((), (5, 5)), (6, 6))
        self.tells((FIRST_LAST, TWICE), (7, 8), ((), ()), (7, 7))
        self.tells((FIRST_LAST, LATER, TWICE), (7, 8), ((), ()), (7, 7))
        self.tells((AT_END, LATER), (1,), ((),), (1, "end", 1, "end"))
        self.tells((AT_END, AT_END), (1,), ((1,),), ("end", 1, "end", "end", "end", "end"))
        # The end of the next STAGE is behind what is read at the end.
        self.tells((AT_END, FIRST_LAST), (), (), ("end",))

    def test_words_of_one_stage_are_things_of_another(self):
        self.tells((PUT_X, NO_REPEATS), (1, "x", "x"), (("x", 1), ("x",), ()))
        self.tells((NO_REPEATS, PUT_X), (1, 1, "x"), (("x", 1), (), ("x", "x")))
        self.tells((PUT_X, LATER, NO_A), ("a", 3), (("x",), ("x",)), (3,))
        self.tells((LATER, NO_A), ("a", "a", 3), ((), (), ()), (3,))
        self.assertEqual(pipe_as_flow((PUT_X, NO_A))[0], ("a", "x"))
        for pipe in ((LATER, PUT_X, NO_A), (NO_A, NO_REPEATS, PUT_X), (AT_END, NO_A, LATER)):
            self.check(pipe, 3)

    def test_verdicts(self):
        odd = compile_condition(("rest", 2, 1, AND))
        odd = (odd[0], tuple((many, tuple(((None,), *turn[1:]) for turn in turns), ending) for many, turns, ending in odd[1]))
        for things in plain_lists((), 3):
            one = "yes" if len(things) % 2 else "no"
            self.tells((odd,), things, tuple((x,) for x in things), (), one)
            self.tells((odd, SAME), things, tuple((x,) for x in things), (), one)
            self.tells((SAME, odd, SAME), things, tuple((x,) for x in things), (), one)
            self.tells((TWICE, odd), things, tuple((x, x) for x in things), (), "no")
            self.tells((odd, odd), things, tuple((x,) for x in things), (), one)
        # What it says hangs on what comes at the end.
        self.tells((AT_END, NO_END), (), (), ("end", "end"), "no")
        self.tells((AT_END, NO_A, LATER, NO_END), (1,), ((),), (1, "end", 1, "end"), "no")
        self.tells((NO_END, AT_END), ("end",), (("end",),), ("end",) * 3, "no")
        self.tells((NO_END, AT_END), ("end", 1), (("end",), (1,)), ("end", 1, "end"))

    def check(self, pipe, most):
        flow = need_flow(pipe_as_flow(pipe))
        words = tuple(sorted({word for stage in pipe for word in stage[0]}))
        self.assertEqual(flow[0], words)
        for things in plain_lists(words, most):
            told = run_pipe(pipe, things)
            self.assertEqual(told, by_lists(pipe, things), (pipe, things))
            self.assertEqual(run_flow(flow, things), told, (pipe, things))

    def test_all_pairs(self):
        stages = (SAME, TWICE, NOTHING, NO_REPEATS, LATER, FIRST_LAST, AT_END, NO_A, PUT_X, NO_END, NEIGHBOUR_FLOW, flow_of(FIRST_TWO))
        for pipe in itertools.product(stages, repeat=2):
            self.check(pipe, 3)

    def test_some_pipes(self):
        refused = 0
        for seed in range(150):
            chance = random.Random(seed)
            stages = (NO_REPEATS, LATER, AT_END, PUT_X, *(small_flow(chance, 3, 2) for _ in range(6)))
            pipe = tuple(chance.choice(stages) for _ in range(chance.randint(1, 4)))
            try:
                self.check(pipe, 3)
            except TooMany:
                refused += 1
        self.assertLess(refused, 10)

    def test_long_lists(self):
        things = tuple(x // 3 % 5 for x in range(1000))
        rows, verdict, last = run_pipe((TWICE, LATER, NO_REPEATS), things)
        self.assertEqual((len(rows), rows[:5], verdict, last), (1000, ((0,), (), (), (1,), ()), "yes", ()))
        # A row may be longer than one of a FLOW.
        long = tells((None,) * 81)
        self.assertEqual(run_pipe((long, long), (1,)), (((1,) * 6561,), "yes", ()))

    def test_nothing_is_changed_and_the_same_is_told(self):
        pipe = (PUT_X, LATER, NO_A)
        same = copy.deepcopy(pipe)
        for call in (pipe_as_flow, may_turn_stages, needless_stages, lambda x: run_pipe(x, (1, "a", 1))):
            self.assertEqual(call(same), call(pipe))
        self.assertIs(need_pipe(pipe), pipe)
        self.assertEqual(pipe, same)


class Piped(unittest.TestCase):
    def test_stages_that_are_piped_ahead(self):
        pipes = [(TWICE, LATER, NO_REPEATS), (PUT_X, NO_A, LATER), (LATER, AT_END, NO_END), (NO_A, TWICE, PUT_X, LATER)]
        for seed in range(40):
            chance = random.Random(seed)
            pipes.append(tuple(small_flow(chance, 3, 1) for _ in range(3)))
        for pipe in pipes:
            flow = pipe_as_flow(pipe)
            first = pipe_as_flow((pipe_as_flow(pipe[:2]), *pipe[2:]))
            last = pipe_as_flow((*pipe[:-2], pipe_as_flow(pipe[-2:])))
            for other in (first, last):
                if other[0] == flow[0]:
                    self.assertIs(flows_alike(flow, other), True)
            self.assertEqual(first[0], flow[0])

    def test_too_many_places(self):
        def two(many):
            """Rings that pass all items on, and say "yes" only where they began."""
            rings = []
            for word, length in (("a", 20), ("b", many)):
                _, places = ring(length, word, ("a", "b"), tuple(range(1, length)))
                rings.append((("a", "b"), tuple(
                    (0, tuple(((kind,), turn[1], ()) for kind, turn in zip(("a", "b", None), turns)), ending)
                    for _, turns, ending in places)))
            return tuple(rings)

        self.assertEqual(len(pipe_as_flow(two(15))[1]), 300)
        for pipe in (two(16), (*two(16), tells((None,) * 81), tells((None,) * 2)), (first_ones(16), one_behind(16), *two(20))):
            with self.assertRaises(TooMany) as caught:
                pipe_as_flow(pipe)
            self.assertEqual(caught.exception.most, 300)
            need_pipe(pipe)

    def test_too_long_rows(self):
        nine = tells((None,) * 9)
        self.assertEqual(pipe_as_flow((nine, nine))[1][0][1][0][0], (None,) * 81)
        ends = ((), ((0, (((), 0, ()),), YES),))
        last = (("w",), ((0, (((), 0, ()),) * 2, ("yes", ("w",) * 9)),))
        self.assertEqual(pipe_as_flow((last, tells((None,) * 9, ("w",))))[1][0][2], ("yes", ("w",) * 81))
        for pipe in ((nine, nine, TWICE), (nine, tells((None,) * 10)), (nine, nine, nine, nine), (last, tells((None,) * 10)),
                     (first_ones(16), one_behind(16), nine, tells((None,) * 10))):
            with self.assertRaises(TooMany) as caught:
                pipe_as_flow(pipe)
            self.assertEqual(caught.exception.most, 81)
        self.assertEqual(pipe_as_flow((nine, nine, nine, NOTHING)), ends)

    def test_too_many_things(self):
        flow = need_flow(pipe_as_flow((first_ones(15), one_behind(16))))
        self.assertEqual(max(place[0] for place in flow[1]), 16)
        things = tuple(range(17))
        for last in (0, 14, 15, 16, 17):
            self.assertEqual(run_flow(flow, (*things, last)), run_pipe((first_ones(15), one_behind(16)), (*things, last)))
        with self.assertRaises(TooMany) as caught:
            pipe_as_flow((SAME, first_ones(16), one_behind(16)))
        self.assertEqual(caught.exception.most, 16)

    def test_what_is_kept_for_nothing(self):
        # Seventeen things are kept, but that matters nothing to what is told.
        def said_yes(flow):
            return flow[0], tuple((many, turns, YES) for many, turns, _ in flow[1])

        self.assertEqual(pipe_as_flow((said_yes(first_ones(16)), said_yes(one_behind(16)))), SAME)
        silent = tells((), ("end",))
        self.assertEqual(len(pipe_as_flow((NO_REPEATS, LATER, silent))[1]), 1)


class Changes(unittest.TestCase):
    def test_by_hand(self):
        for pipe, turn, needless in (
                ((SAME,), (), ()), ((LATER,), (), ()), ((NOTHING,), (), ()),
                ((SAME, SAME), (0,), (0, 1)), ((SAME, LATER), (0,), (0,)), ((LATER, SAME), (0,), (1,)),
                ((TWICE, TWICE), (0,), ()), ((TWICE, LATER), (), ()), ((NO_REPEATS, NO_REPEATS), (0,), (0, 1)),
                ((TWICE, NO_REPEATS), (), (0,)), ((NO_REPEATS, TWICE), (), ()), ((LATER, TWICE), (), ()),
                ((NOTHING, NOTHING), (0,), (0, 1)), ((NOTHING, TWICE), (0,), (1,)), ((TWICE, NOTHING), (0,), (0,)),
                ((NO_A, PUT_X), (), ()), ((NO_A, TWICE), (0,), ()), ((NO_A, NO_A), (0,), (0, 1)), ((NO_A, LATER), (), ()),
                ((NO_A, NO_REPEATS), (), ()), ((AT_END, NO_A), (), ()), ((AT_END, FIRST_LAST), (), ()),
                ((SAME, TWICE, SAME, NO_REPEATS), (0, 1, 2), (0, 1, 2)), ((TWICE, NO_A, NO_A, LATER), (0, 1, 2), (1, 2)),
                ((TWICE, NO_REPEATS, TWICE), (), (0,)), ((LATER, TWICE, NO_REPEATS, SAME), (2,), (1, 3))):
            self.assertEqual(may_turn_stages(pipe), turn, pipe)
            self.assertEqual(needless_stages(pipe), needless, pipe)

    def test_verdicts_count(self):
        never = (("w",), ((0, ((("w",), 0, ()), ((None,), 0, ())), ("no", ())),))
        self.assertEqual(needless_stages((SAME, never)), (0,))
        self.assertEqual(needless_stages((never, SAME, never)), (0, 1, 2))
        self.assertEqual(may_turn_stages((SAME, never, NO_END)), (0, 1))
        self.assertEqual(needless_stages((NO_END, SAME, NO_END)), (0, 1, 2))
        self.assertEqual(may_turn_stages((AT_END, NO_END)), ())

    def test_as_their_behaviours_say(self):
        said = {}
        for seed in range(120):
            chance = random.Random(seed)
            stages = (SAME, NO_REPEATS, NO_A, TWICE, *(small_flow(chance, 2, 1) for _ in range(2)))
            pipe = tuple(chance.choice(stages) for _ in range(chance.randint(2, 3)))
            words = tuple(sorted({word for stage in pipe for word in stage[0]}))
            told = [run_pipe(pipe, things) for things in plain_lists(words, 4)]

            def is_same(other):
                return [run_pipe(other, things) for things in plain_lists(words, 4)] == told

            turn = tuple(n for n in range(len(pipe) - 1) if is_same((*pipe[:n], pipe[n + 1], pipe[n], *pipe[n + 2:])))
            needless = tuple(n for n in range(len(pipe)) if is_same((*pipe[:n], *pipe[n + 1:])))
            self.assertEqual(may_turn_stages(pipe), turn)
            self.assertEqual(needless_stages(pipe), needless)
            said[turn != (), needless != ()] = True
        self.assertEqual(len(said), 4)

    def test_big_pipes(self):
        def passing(many, word):
            words = ("a", "b")
            return words, tuple((0, tuple(((kind,), turn[1], ()) for kind, turn in zip(("a", "b", None), turns)), ending)
                                for _, turns, ending in ring(many, word, words, tuple(range(1, many)))[1])

        self.assertEqual(may_turn_stages((passing(20, "a"), passing(30, "b"))), (0,))
        self.assertEqual(needless_stages((passing(20, "a"), passing(30, "a"))), ())
        self.assertEqual(needless_stages((passing(20, "a"), passing(60, "a"))), (0,))
        with self.assertRaises(TooMany) as caught:
            may_turn_stages((passing(140, "a"), passing(150, "b")))
        self.assertEqual(caught.exception.most, 20000)
        with self.assertRaises(TooMany) as caught:
            needless_stages((passing(140, "a"), passing(150, "b"), SAME)[::-1])
        self.assertEqual(caught.exception.most, 20000)


class Refusals(unittest.TestCase):
    def refused(self, thing, number):
        for call in (need_pipe, pipe_as_flow, may_turn_stages, needless_stages, lambda x: run_pipe(x, None)):
            with self.assertRaises(BadPipe) as caught:
                call(thing)
            self.assertEqual(caught.exception.number, number, thing)

    def test_what_is_no_tuple_of_one_to_four(self):
        for thing in [*wrong_things(), 1, "ab", (), [SAME], (SAME,) * 5, (None,) * 5]:
            self.refused(thing, None)
        for many in range(1, 5):
            self.assertEqual(len(need_pipe((SAME,) * many)), many)

    def test_the_first_thing_that_is_no_flow(self):
        for thing in [*wrong_things(), 1, "a", (), ((), ()), (SAME,), [*SAME], Agrees(), ((), ((1, None, None),))]:
            for number in range(4):
                for many in range(number + 1, 5):
                    pipe = [SAME] * many
                    pipe[number] = thing
                    self.refused(tuple(pipe), number)
            self.refused((SAME, thing, thing, None), 1)
        # A FLOW itself is a pair, of which the first thing is none.
        self.refused(SAME, 0)

    def test_words_together(self):
        def over(words):
            return tells((), tuple(words))

        need_pipe((over("abcd"), over("efgh")))
        need_pipe((over("abcdefgh"),) * 4)
        need_pipe((over("ab"), over("cd"), over("ef"), over("gh")))
        self.refused((over("abcd"), over("efghi")), None)
        self.refused((over("ab"), over("cd"), over("ef"), over("ghi")), None)
        self.refused((over("abcdefgh"), over("i")), None)
        # What is no FLOW is due first.
        self.refused((over("abcdefgh"), over("i"), None), 2)
        self.assertEqual(pipe_as_flow((over("abcd"), over("efgh")))[0], tuple("abcdefgh"))

    def test_a_pipe_is_due_ahead_of_a_list(self):
        for thing in [*wrong_things(), 1, "a", [1], (True,), ("",), (1,) * 1001]:
            with self.assertRaises(BadList) as caught:
                run_pipe((SAME,), thing)
            self.assertIs(caught.exception.given, thing)
            with self.assertRaises(BadPipe):
                run_pipe((SAME, 1), thing)
        with self.assertRaises(BadFlow):
            run_flow((SAME,), ())


if __name__ == "__main__":
    unittest.main()
