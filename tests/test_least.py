"""[17] CLASSES, [18] the LEAST FLOW, [19] the TIDY MACHINE."""

import copy
import itertools
import random
import unittest

from onlyalike.alike import are_alike, flows_alike
from onlyalike.equal import matches
from onlyalike.errors import BadFlow, BadList, BadMachine, TooMany
from onlyalike.flows import flow_of, need_flow, place_behind, run_flow
from onlyalike.least import classes_of, least_flow, same_class, tidy
from onlyalike.machines import behaviour_for, need_machine
from onlyalike.needed import needed_at
from made import (
    FIRST_TWO, NEIGHBOUR, NEIGHBOUR_FLOW, NEIGHBOUR_TOO, YES, ask, asks, end, go, machine_pairs, one_state, plain_lists, ring,
    ring_machine, shuffled, slow_rings, small_flow, wide_machine, wrong_things,
)

# The PLACES 0, 3 and 5 are of one CLASS, as are 2 and 6; none leads to 1 and 7.
# At 2 the two THINGS may change places. Each item that is one of the first two unlike ones is told by "w".
SET = (("w",), (
    (0, (((), 3, ()), ((), 4, (None,))), YES),
    (2, (((), 1, (0, 1)), ((), 1, (0, 1)), (("w",), 4, (1,)), ((), 6, (1, None))), YES),
    (2, (((), 6, (1, 0)), (("w",), 2, (0, 1)), (("w",), 6, (1, 0)), ((), 2, (0, 1))), YES),
    (0, (((), 5, ()), ((), 4, (None,))), YES),
    (1, (((), 4, (0,)), (("w",), 4, (0,)), ((), 2, (0, None))), YES),
    (0, (((), 3, ()), ((), 4, (None,))), YES),
    (2, (((), 6, (0, 1)), (("w",), 6, (0, 1)), (("w",), 6, (1, 0)), ((), 2, (1, 0))), YES),
    (1, (((), 7, (0,)), ((), 7, (0,)), ((), 0, ())), ("no", (0,)))))
LEAST_SET = (("w",), (
    (0, (((), 0, ()), ((), 1, (None,))), YES),
    (1, (((), 1, (0,)), (("w",), 1, (0,)), ((), 2, (0, None))), YES),
    (2, (((), 2, (0, 1)), (("w",), 2, (0, 1)), (("w",), 2, (0, 1)), ((), 2, (0, 1))), YES)))
# Keeps the last two unlike items, the last one as 0 or 1 by turns, and tells the last one at the end.
SWING = ((), (
    (0, (((), 1, (None,)),), YES),
    (1, (((), 1, (0,)), ((), 2, (None, 0))), ("yes", (0,))),
    (2, (((), 2, (0, 1)), ((), 3, (0, 1)), ((), 3, (0, None))), ("yes", (0, 1))),
    (2, (((), 2, (0, 1)), ((), 3, (0, 1)), ((), 2, (None, 1))), ("yes", (1, 0)))))
LEAST_SWING = ((), (
    (0, (((), 1, (None,)),), YES),
    (1, (((), 1, (0,)), ((), 2, (0, None))), ("yes", (0,))),
    (2, (((), 2, (1, 0)), ((), 2, (0, 1)), ((), 2, (1, None))), ("yes", (1, 0)))))
LONG_TIDY = (("v", "w"), ("a", "b"), (
    ("sa", ask(("word", "v"), go((("word", "w"),), (), "sa"), ask(("word", "w"), go((), (), "sa"), go(
        (("item",), ("item",)), (("keep", "a"),), "sb"))), end("no", (("word", "v"),))),
    ("sb", ask(("word", "v"), go((), (("empty", "a"),), "sa"), ask(("word", "w"), go((("box", "a"),), (), "sb"), ask(
        ("item", "a"), go((("box", "a"),), (), "sb"), go((("item",), ("box", "a")), (("keep", "a"), ("copy", "a", "b")), "sc")))),
     end("yes", (("box", "a"),))),
    ("sc", ask(("word", "v"), go((), (("copy", "b", "a"), ("empty", "b")), "sb"), ask(
        ("word", "w"), go((), (("empty", "a"), ("empty", "b")), "sa"), ask(("item", "a"), go((), (), "sc"), ask(
            ("item", "b"), go((), (("copy", "b", "a"), ("copy", "a", "b")), "sc"), go((), (("keep", "b"),), "sc"))))),
     end("yes", (("box", "b"), ("word", "w"), ("box", "a"))))))
LONG = (("v", "w"), (
    (0, ((("w",), 0, ()), ((), 0, ()), ((None, None), 1, (None,))), ("no", ("v",))),
    (1, (((), 0, ()), ((0,), 1, (0,)), ((0,), 1, (0,)), ((None, 0), 2, (None, 0))), ("yes", (0,))),
    (2, (((), 1, (1,)), ((), 0, ()), ((), 2, (0, 1)), ((), 2, (1, 0)), ((), 2, (0, None))), ("yes", (1, "w", 0)))))


def slow_least(flow):
    """The LEAST FLOW and the CLASSES, from nothing but the document's words and the MATCHES."""
    words, places = flow
    met = [0]
    for p in met:
        met += [q for q in dict.fromkeys(turn[1] for turn in places[p][1]) if q not in met]
    first = {p: next(q for q in met if matches(flow, p, q)) for p in met}
    needed = {p: needed_at(flow, p) for p in met}
    numbers, orders, out = {0: 0}, {0: ()}, []
    big = 99
    while len(out) < len(numbers):
        p = list(numbers)[len(out)]
        own = orders[p]
        _, turns, (verdict, last) = places[p]
        kinds = [*range(len(words)), *(len(words) + thing for thing in own), len(turns) - 1]

        def told(row):
            return tuple(x if x is None or isinstance(x, str) else own.index(x) for x in row)

        new = []
        for kind in kinds:
            row, q, origins = turns[kind]
            come = {thing: big if origins[thing] is None else own.index(origins[thing]) for thing in needed[q]}
            # Each MATCH tells which THING of the first PLACE of the CLASS each of its THINGS is.
            lets = [{second: come[one] for one, second in match} for match in matches(flow, q, first[q])]
            if first[q] not in numbers:
                numbers[first[q]] = len(numbers)
                orders[first[q]] = tuple(sorted(lets[0], key=lambda thing: lets[0][thing]))
            least = min(tuple(let[thing] for thing in orders[first[q]]) for let in lets)
            new.append((told(row), numbers[first[q]], tuple(None if x == big else x for x in least)))
        out.append((len(own), tuple(new), (verdict, told(last))))
    return (words, tuple(out)), tuple(numbers[first[p]] if p in first else None for p in range(len(places)))


class Least(unittest.TestCase):
    def test_by_hand(self):
        need_flow(SET)
        self.assertEqual(least_flow(SET), LEAST_SET)
        self.assertEqual(classes_of(SET), (0, None, 2, 0, 1, 0, 2, None))
        self.assertEqual(least_flow(SWING), LEAST_SWING)
        self.assertEqual(classes_of(SWING), (0, 1, 2, 2))
        self.assertEqual(least_flow(NEIGHBOUR_FLOW), NEIGHBOUR_FLOW)
        self.assertEqual(least_flow(flow_of(NEIGHBOUR_TOO)), NEIGHBOUR_FLOW)
        self.assertEqual(classes_of(NEIGHBOUR_FLOW), (0, 1, 2))

    def test_places_to_which_nothing_leads(self):
        lost = ((), ((0, (((), 1, (None,)),), YES), (1, (((), 1, (0,)), ((), 1, (0,))), YES), (0, (((), 0, ()),), YES)))
        self.assertEqual(classes_of(lost), (0, 0, None))
        self.assertEqual(least_flow(lost), ((), ((0, (((), 0, ()),), YES),)))

    def test_rings(self):
        self.assertEqual(classes_of(ring(6, "a", ("a",), (0, 3))), (0, 1, 2, 0, 1, 2))
        self.assertEqual(least_flow(ring(6, "a", ("a",), (0, 3))), ring(3, "a", ("a",), (0,)))
        self.assertEqual(classes_of(ring(300, "a", ("a",), (299,))), tuple(range(300)))
        self.assertEqual(least_flow(ring(300, "a", ("a",))), ring(1, "a", ("a",)))
        self.assertEqual(set(classes_of(ring(300, "a", ("a", "b")))), {0})

    def test_where_things_are_numbered_by_what_is_met_first(self):
        # The TURN of the WORD comes first; by it the item ahead of what was kept is met.
        flow = (("w",), (
            (0, (((), 0, ()), ((), 1, (None,))), YES),
            (1, (((), 0, ()), ((), 0, ()), ((), 2, (None, 0))), YES),
            (2, (((), 2, (1, 0)), ((), 2, (0, 1)), ((), 2, (0, 1)), ((), 2, (None, 0))), ("yes", (0, 1)))))
        self.assertEqual(least_flow(flow), (("w",), (
            (0, (((), 0, ()), ((), 1, (None,))), YES),
            (1, (((), 0, ()), ((), 0, ()), ((), 2, (0, None))), YES),
            (2, (((), 2, (1, 0)), ((), 2, (0, 1)), ((), 2, (0, 1)), ((), 2, (1, None))), ("yes", (1, 0))))))

    def test_none_is_greater_than_all_numbers(self):
        # Two things that may change places; NEW takes the place of the one that is numbered 0.
        flow = (("w",), (
            (0, (((), 0, ()), ((), 1, (None,))), YES),
            (1, (((), 1, (0,)), (("w",), 1, (0,)), ((), 2, (0, None))), YES),
            (2, (((), 2, (0, 1)), (("w",), 2, (0, 1)), (("w",), 2, (0, 1)), ((), 3, (None, 1))), YES),
            (2, (((), 2, (0, 1)), (("w",), 2, (0, 1)), (("w",), 2, (0, 1)), ((), 2, (0, 1))), ("no", ()))))
        self.assertEqual(least_flow(flow)[1][2][1][3], ((), 3, (1, None)))
        again = (flow[0], (*flow[1][:3], (*flow[1][3][:1], (*flow[1][3][1][:3], ((), 3, (None, 0))), flow[1][3][2])))
        # At 3 they may not, and the one that NEW lets go there is the one that was kept first.
        self.assertEqual(least_flow(again)[1][2][1][3], ((), 3, (1, None)))
        self.assertEqual(least_flow(again)[1][3][1][3], ((), 3, (1, None)))

    def test_the_numbering_in_layers_by_the_new_order_of_things(self):
        # At 3 the THING 1 was kept first, so it is numbered 0, and what its TURN leads to is met first.
        flow = ((), (
            (0, (((), 1, (None,)),), YES),
            (1, (((), 1, (0,)), ((), 3, (None, 0))), YES),
            (0, (((), 2, ()),), ("no", ())),
            (2, (((), 4, ()), ((), 2, ()), ((), 3, (0, 1))), ("yes", (0, 1))),
            (0, (((None,), 4, ()),), ("no", ()))))
        self.assertEqual(classes_of(flow), (0, 1, 3, 2, 4))

    def test_as_the_document_defines_it(self):
        flows = [small_flow(random.Random(at), 6, 2) for at in range(250)] + [SET, SWING, LONG, asks(3, (0, 1, 2))]
        flows += [shuffled(random.Random(at), flow, 1) for at, flow in enumerate(flows[:120])]
        for flow in flows:
            least, classes = slow_least(flow)
            self.assertEqual(least_flow(flow), least)
            self.assertEqual(classes_of(flow), classes)

    def test_what_is_told_stays_and_it_is_its_own_least(self):
        for flow in [SET, SWING, LONG] + [flow_of(one) for one, _ in machine_pairs(31, 60)]:
            least = need_flow(least_flow(flow))
            self.assertEqual(least_flow(least), least)
            self.assertEqual(classes_of(least), tuple(range(len(least[1]))))
            self.assertIs(flows_alike(flow, least), True)
            for things in plain_lists(flow[0], 4):
                self.assertEqual(run_flow(flow, things), run_flow(least, things))

    def test_it_is_one_and_the_same_for_all_that_are_alike(self):
        for at in range(150):
            chance = random.Random(at)
            flow = small_flow(chance, 4, 3)
            least = least_flow(flow)
            for more in (0, 1):
                other = need_flow(shuffled(chance, flow, more))
                self.assertEqual(least_flow(other), least)
                self.assertEqual(set(classes_of(other)) - {None}, set(range(len(least[1]))))
        said = {}
        for one, other in machine_pairs(32, 200):
            if one[0] == other[0]:
                said[are_alike(one, other)] = True
                self.assertEqual(least_flow(flow_of(one)) == least_flow(flow_of(other)), are_alike(one, other))
        self.assertEqual(set(said), {True, False})

    def test_no_more_things_or_places_than_those_that_are_alike_have(self):
        for at in range(60):
            flow = shuffled(random.Random(at), small_flow(random.Random(at), 4, 2), 2)
            least = least_flow(flow)
            self.assertLessEqual(len(least[1]), len(flow[1]))
            for things in plain_lists(flow[0], 4):
                at_least, at_flow = least[1][place_behind(least, things)], flow[1][place_behind(flow, things)]
                self.assertLessEqual(at_least[0], at_flow[0])

    def test_five_needed_things_and_six(self):
        five = asks(5, range(5))
        self.assertEqual(classes_of(five), (0, 1, 2, 3, 4, 5))
        self.assertEqual(least_flow(five)[1][5][1][3], (("w",), 5, (0, 1, 2, 3, 4)))
        six = asks(6, range(6))
        # The same, but that none leads to these places.
        moved = (six[0], ((0, (((), 0, ()), ((), 0, ())), YES),) + tuple(
            (many, tuple((row, at + 1, origins) for row, at, origins in turns), ending) for many, turns, ending in six[1]))
        self.assertEqual(classes_of(moved), (0,) + (None,) * 7)
        self.assertEqual(len(least_flow(moved)[1]), 1)
        for call in (classes_of, least_flow):
            for flow in (six, asks(9, range(9))):
                with self.assertRaises(TooMany) as caught:
                    call(flow)
                self.assertEqual(caught.exception.most, 5)

    def test_many_orders_that_are_all_the_same(self):
        # The last five unlike items, the latest one ahead; what was asked for is the latest one.
        places = [(0, (((), 1, (None,)),), YES)]
        for many in range(1, 6):
            latest = [((), many, (at, *[x for x in range(many) if x != at])) for at in range(many)]
            new = ((), min(many + 1, 5), (None, *range(min(many, 4))))
            places.append((many, (*latest, new), ("yes", tuple(range(many)))))
        flow = ((), tuple(places))
        self.assertEqual(len(least_flow(flow)[1]), 6)
        self.assertEqual(least_flow(flow)[1][5][1][5], ((), 5, (1, 2, 3, 4, None)))
        self.assertEqual(slow_least(flow)[0], least_flow(flow))

    def test_nothing_is_changed_and_the_same_is_told(self):
        flow = copy.deepcopy(SET)
        for call in (least_flow, classes_of, tidy):
            self.assertEqual(call(flow), call(flow))
        self.assertEqual(flow, SET)

    def test_what_is_refused(self):
        for call in (classes_of, least_flow, tidy):
            for thing in [*wrong_things(), 1, "a", ()]:
                with self.assertRaises(BadFlow) as caught:
                    call(thing)
                self.assertEqual(caught.exception.place, ())
            with self.assertRaises(BadFlow) as caught:
                call(((), ((0, None, None), (1, None, None))))
            self.assertEqual(caught.exception.place, (1, 0))
        for call in (classes_of, least_flow):
            with self.assertRaises(TooMany) as caught:
                call(flow_of(slow_rings()))
            self.assertEqual(caught.exception.most, 20000)


class SameClass(unittest.TestCase):
    def test_by_hand(self):
        for one, other, same in (((), (), True), ((), (1,), False), ((1,), (2,), True), ((1,), (2, 2), True),
                                 ((1, 2), (2, 1), True), ((1, 2), ("w", 8, 8, 9, 10), True), ((1, 2), (3,), False)):
            self.assertIs(same_class(FIRST_TWO, one, other), same)
            self.assertIs(same_class(FIRST_TWO, other, one), same)
        self.assertIs(same_class(NEIGHBOUR, (), ("same",)), False)
        self.assertIs(same_class(NEIGHBOUR, (1,), (1, 2, 2, 3)), True)
        self.assertIs(same_class(NEIGHBOUR, ("same",), (1, "same")), True)
        # Behind these many things are kept, but none is needed.
        idle = one_state(go((), (("copy", "x", "y"), ("keep", "x"))), end(), (), ("x", "y"))
        self.assertIs(same_class(idle, (), (1, 2, 3)), True)

    def test_as_classes_of_says(self):
        said = {}
        for machine in [NEIGHBOUR_TOO, FIRST_TWO] + [one for one, _ in machine_pairs(33, 15)]:
            flow = flow_of(machine)
            classes = classes_of(flow)
            for one, other in itertools.product(plain_lists(machine[0], 2), repeat=2):
                wanted = classes[place_behind(flow, one)] == classes[place_behind(flow, other)]
                self.assertIs(same_class(machine, one, other), wanted)
                said[wanted] = True
        self.assertEqual(len(said), 2)

    def test_what_is_refused(self):
        wide = wide_machine(76, False)
        bad = [*wrong_things(), 1, "a", [1], (True,), ("",), (1,) * 1001]
        for thing in bad:
            with self.assertRaises(BadMachine):
                same_class(thing, None, None)
            for call in (lambda x: same_class(wide, x, None), lambda x: same_class(wide, (), x)):
                with self.assertRaises(BadList) as caught:
                    call(thing)
                self.assertIs(caught.exception.given, thing)
        with self.assertRaises(TooMany) as caught:
            same_class(wide, (), ())
        self.assertEqual(caught.exception.most, 300)
        self.assertIs(same_class(wide_machine(75, False), (), (1, 2)), True)
        with self.assertRaises(TooMany) as caught:
            same_class(slow_rings(), (1,), (1, 2))
        self.assertEqual(caught.exception.most, 20000)

    def test_five_needed_things_and_six(self):
        boxes = ("a", "b", "c", "d", "e", "f")
        tree = go()
        for box in reversed(boxes):
            tree = ask(("empty", box), go((), (("keep", box),)), ask(("item", box), go((("item",),)), tree))
        machine = one_state(tree, None, (), boxes)
        five, six = (1, 2, 3, 4, 5), (1, 2, 3, 4, 5, 6)
        self.assertIs(same_class(machine, five, (9, 9, 8, 7, 6, 5)), True)
        self.assertIs(same_class(machine, five, ()), False)
        for one, other in ((six, ()), ((), six), (six, six), (five, six), (six, five)):
            with self.assertRaises(TooMany) as caught:
                same_class(machine, one, other)
            self.assertEqual(caught.exception.most, 5)


class Tidy(unittest.TestCase):
    def test_by_hand(self):
        self.assertEqual(tidy(LONG), LONG_TIDY)
        self.assertEqual(tidy(((), ((0, (((), 0, ()),), ("no", ())),))), (
            (), (), (("sa", ("go", (), (), "sa"), ("end", "no", ())),)))
        same = (("same",), ("a",), (
            ("sa", ask(("word", "same"), go((), (), "sb"), go((), (("keep", "a"),), "sc")), end()),
            ("sb", ask(("word", "same"), go((("word", "same"),), (), "sb"), go((), (("keep", "a"),), "sc")), end()),
            ("sc", ask(("word", "same"), go((), (("empty", "a"),), "sb"), ask(
                ("item", "a"), go((("word", "same"),), (), "sc"), go((), (("keep", "a"),), "sc"))), end())))
        self.assertEqual(tidy(NEIGHBOUR_FLOW), same)

    def test_names_of_states(self):
        names = [state[0] for state in tidy(ring(80, "a", ("a",)))[2]]
        self.assertEqual(names[:3] + names[9:13] + names[79:], ["sa", "sb", "sc", "sj", "sba", "sbb", "sbc", "shj"])
        self.assertEqual(len(set(names)), 80)

    def test_a_state_for_each_place_also_where_none_leads(self):
        lost = ((), ((0, (((), 0, ()),), YES), (1, (((0,), 1, (0,)), ((None,), 0, ())), YES)))
        self.assertEqual(tidy(lost), ((), ("a",), (
            ("sa", go((), (), "sa"), end()),
            ("sb", ask(("item", "a"), go((("box", "a"),), (), "sb"), go((("item",),), (("empty", "a"),), "sa")), end()))))

    def test_it_tells_what_the_flow_tells(self):
        for at in range(120):
            flow = small_flow(random.Random(at), 5, 3)
            machine = need_machine(tidy(flow))
            self.assertEqual(machine[0], flow[0])
            self.assertEqual(machine[1], tuple("abcdefgh"[:max(place[0] for place in flow[1])]))
            for things in plain_lists(flow[0], 3):
                self.assertEqual(behaviour_for(machine, things), run_flow(flow, things))

    def test_its_flow_is_the_least_flow_of_which_it_is(self):
        flows = [SET, SWING, LONG, asks(5, (0, 2, 4)), ring(80, "a", ("a",), (79,)), flow_of(FIRST_TWO)]
        for flow in flows + [small_flow(random.Random(at), 6, 3) for at in range(150)]:
            least = least_flow(flow)
            self.assertEqual(flow_of(tidy(least)), least)

    def test_too_many_in_their_order(self):
        def flow(words, places, many, row, told=()):
            """A FLOW with so many WORDS and PLACES, the last of which keeps so many THINGS and tells such rows."""
            empty = (0, (((), 0, ()),) * (words + 1), ("yes", ("a",) * told if told else ()))
            full = (many, (((), 0, ()),) * (words + many) + ((("a",) * row, 0, ()),), YES)
            return tuple("abcdefgh"[:words]), (empty,) * (places - 1) + (full,)

        for words, places, many, row, most in (
                (4, 80, 8, 9, None), (5, 80, 8, 9, 4), (4, 81, 8, 9, 80), (4, 80, 9, 9, 8), (4, 80, 8, 10, 9),
                (8, 300, 16, 81, 4), (4, 300, 16, 81, 80), (4, 80, 16, 81, 8), (5, 80, 8, 10, 4), (4, 81, 9, 9, 80)):
            given = need_flow(flow(words, places, many, row))
            if most is None:
                need_machine(tidy(given))
            else:
                with self.assertRaises(TooMany) as caught:
                    tidy(given)
                self.assertEqual(caught.exception.most, most)
        # The row of an END, too, and of any PLACE.
        need_machine(tidy(flow(1, 2, 1, 0, 9)))
        with self.assertRaises(TooMany) as caught:
            tidy(flow(1, 2, 1, 0, 10))
        self.assertEqual(caught.exception.most, 9)
        # It looks at no list, so it does not matter how many THINGS are NEEDED.
        need_machine(tidy(asks(8, range(8))))

    def test_rings_as_machines(self):
        machine = ring_machine(12, "w", ("w",), (11,))
        self.assertIs(are_alike(machine, tidy(least_flow(flow_of(machine)))), True)


if __name__ == "__main__":
    unittest.main()
