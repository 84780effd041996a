"""[15] PLACES that are EQUAL UNDER a LINK, [16] NEEDED THINGS as [17] asks for them, [17] MATCHES."""

import copy
import itertools
import unittest

from onlyalike.equal import going_on, is_equal, matches, need_link, need_place
from onlyalike.errors import BadFlow, BadLink, BadPlace, TooMany
from onlyalike.flows import flow_of
from made import Agrees, asks, going_ons, machine_pairs, ring, told_from, wrong_things

YES = ("yes", ())
STILL = (((), 0, ()),)
# Place 1 tells "w" when its thing comes; place 2 keeps two things, and tells it when one of both comes; place 3 keeps
# one that is never told; place 4 tells when its thing comes next, and nothing behind that; none leads from 0 to 3 and 4.
TELLS = (("w",), (
    (0, (((), 0, ()), ((), 1, (None,))), YES),
    (1, (((), 1, (0,)), (("w",), 1, (0,)), ((), 2, (0, None))), YES),
    (2, (((), 2, (0, 1)), (("w",), 2, (0, 1)), (("w",), 2, (1, 0)), ((), 2, (0, 1))), YES),
    (1, (((), 3, (0,)), ((), 3, (0,)), ((), 3, (0,))), YES),
    (1, (((), 5, ()), (("w",), 5, ()), ((), 5, ())), YES),
    (0, (((), 5, ()), ((), 5, ())), YES),
))


def all_links(many, other_many):
    for size in range(min(many, other_many) + 1):
        for ones in itertools.combinations(range(many), size):
            for others in itertools.permutations(range(other_many), size):
                yield tuple(zip(ones, others))


def common_names(flow, p, q, link):
    """What both PLACES hold in COMMON NUMBERS, and how many numbers these are."""
    many, other_many = flow[1][p][0], flow[1][q][0]
    linked = {second: first for first, second in link}
    loose = [second for second in range(other_many) if second not in linked]
    names = [linked[at] if at in linked else many + loose.index(at) for at in range(other_many)]
    return list(range(many)), names, many + len(loose)


def tells_unlike(flow, p, q, link, items):
    held, other_held, _ = common_names(flow, p, q, link)
    rows, verdict, last = told_from(flow, p, held, items)
    other_rows, other_verdict, other_last = told_from(flow, q, other_held, items)
    return rows[-1:] != other_rows[-1:] or (verdict, last) != (other_verdict, other_last)


class Equal(unittest.TestCase):
    def unequal(self, flow, p, q, link, many):
        """The GOING ON, having so many items, TELLS UNLIKE, and no shorter one does."""
        going = going_on(flow, p, q, link)
        self.assertIs(is_equal(flow, p, q, link), False)
        self.assertEqual(len(going), many)
        known = common_names(flow, p, q, link)[2]
        self.assertIn(going, going_ons(flow[0], known, many))
        self.assertTrue(tells_unlike(flow, p, q, link, going))
        for items in going_ons(flow[0], known, many - 1) if many else ():
            self.assertFalse(tells_unlike(flow, p, q, link, items))

    def equal(self, flow, p, q, link):
        self.assertIs(is_equal(flow, p, q, link), True)
        self.assertIs(going_on(flow, p, q, link), None)

    def test_under_one_link_and_not_under_another(self):
        self.equal(TELLS, 1, 1, ((0, 0),))
        self.unequal(TELLS, 1, 1, (), 1)
        self.assertIn(going_on(TELLS, 1, 1, ()), ((0,), (1,)))
        for link in (((0, 0), (1, 1)), ((0, 1), (1, 0))):
            self.equal(TELLS, 2, 2, link)
        for link in ((), ((0, 0),), ((0, 1),), ((1, 1),)):
            self.unequal(TELLS, 2, 2, link, 1)

    def test_a_place_under_the_empty_link_with_itself(self):
        self.equal(TELLS, 0, 0, ())
        self.equal(TELLS, 3, 3, ())
        self.equal(TELLS, 5, 5, ())
        self.unequal(TELLS, 2, 2, (), 1)
        self.unequal(TELLS, 4, 4, (), 1)

    def test_places_of_unlike_many(self):
        self.equal(TELLS, 3, 5, ())
        self.equal(TELLS, 5, 3, ())
        self.unequal(TELLS, 1, 5, (), 1)
        self.assertEqual(going_on(TELLS, 1, 5, ()), (0,))
        self.assertEqual(going_on(TELLS, 5, 1, ()), (0,))
        self.unequal(TELLS, 1, 2, ((0, 1),), 1)
        self.assertEqual(going_on(TELLS, 1, 2, ((0, 1),)), (1,))
        self.assertEqual(going_on(TELLS, 2, 1, ((1, 0),)), (0,))
        self.unequal(TELLS, 0, 5, (), 2)
        self.assertEqual(going_on(TELLS, 0, 5, ()), (0, 0))

    def test_further_numbers_by_first_coming(self):
        # Only a thing that place 1 has not is kept by it, and told if it comes again.
        flow = (("w",), (
            (0, (((), 0, ()), ((), 0, ())), YES),
            (1, (((), 0, ()), ((), 0, ()), ((), 2, (0, None))), YES),
            (2, (((), 0, ()), ((), 0, ()), ((), 3, (1, 0)), ((), 0, ())), YES),
            (2, (((), 0, ()), ((), 0, ()), ((), 0, ()), ((), 4, (None,))), YES),
            (1, (((), 0, ()), (("w",), 0, ()), ((), 0, ())), YES)))
        self.assertEqual(going_on(flow, 1, 0, ()), (1, 1, 2, 2))
        self.assertEqual(going_on(flow, 0, 1, ()), (1, 1, 2, 2))
        self.unequal(flow, 1, 0, (), 4)
        self.assertEqual(going_on(flow, 3, 0, ()), (2, 2))
        self.assertEqual(going_on(flow, 3, 1, ((0, 0),)), (2, 2))
        # The thing of place 4 is told by it at once; it is the next number behind that of place 1.
        self.assertEqual(going_on(flow, 1, 4, ()), (1,))

    def test_the_empty_going_on(self):
        flow = (("w",), (
            (0, (((), 1, (),), ((), 0, ())), YES),
            (0, (((), 2, (),), ((), 3, (None,))), ("yes", ("w",))),
            (0, (((), 0, (),), ((), 0, ())), ("no", ())),
            (1, (((), 0, ()), ((), 0, ()), ((), 0, ())), ("yes", (0,)))))
        for p, q in ((0, 1), (1, 2), (0, 2), (2, 3)):
            self.assertEqual(going_on(flow, p, q, ()), ())
            self.assertEqual(going_on(flow, q, p, ()), ())
            self.unequal(flow, p, q, (), 0)
        self.equal(flow, 3, 3, ((0, 0),))
        self.assertEqual(going_on(flow, 3, 3, ()), ())

    def test_what_was_let_go_by_one_alone(self):
        # At "w" place 1 lets its thing go, and place 2 keeps it; both keep what comes next, and tell if it comes again.
        flow = (("w",), (
            (0, (((), 0, ()), ((), 1, (None,))), YES),
            (1, (((), 0, ()), ((), 1, (0,)), ((), 1, (0,))), YES),
            (1, (((), 3, (0,)), ((), 2, (0,)), ((), 2, (0,))), YES),
            (1, (((), 3, (0,)), (("w",), 1, (0,)), ((), 1, (None,))), YES)))
        self.unequal(flow, 1, 2, ((0, 0),), 2)
        self.assertEqual(going_on(flow, 1, 2, ((0, 0),)), ("w", 0))
        self.unequal(flow, 1, 2, (), 2)
        self.assertEqual(going_on(flow, 1, 2, ()), ("w", 1))
        self.assertEqual(going_on(flow, 2, 1, ()), ("w", 0))
        self.equal(flow, 0, 1, ())
        self.equal(flow, 1, 1, ())

    def test_a_thing_that_is_the_item_is_told_alike(self):
        # The one tells its thing by its number, the other one tells it as a new one.
        flow = ((), (
            (0, (((None,), 0, ()),), YES),
            (1, (((0,), 1, (0,)), ((None,), 1, (0,))), YES)))
        self.equal(flow, 0, 1, ())
        self.equal(flow, 1, 1, ())
        self.assertEqual(matches(flow, 0, 1), ((),))

    def test_small_flows(self):
        some = {}
        for flow in [TELLS] + [flow_of(one) for one, _ in machine_pairs(9, 40)]:
            places = range(min(len(flow[1]), 6))
            for p, q in itertools.product(places, places):
                for link in all_links(flow[1][p][0], flow[1][q][0]):
                    going = going_on(flow, p, q, link)
                    if going is None:
                        self.equal(flow, p, q, link)
                        known = common_names(flow, p, q, link)[2]
                        self.assertFalse(any(tells_unlike(flow, p, q, link, x) for x in going_ons(flow[0], known, 2)))
                    elif len(going) <= 3:
                        self.unequal(flow, p, q, link, len(going))
                    some[None if going is None else len(going)] = True
        self.assertTrue({None, 0, 1, 2} <= set(some))

    def test_too_many_joints(self):
        words = ("a", "b")
        one, other = ring(140, "a", words)[1], ring(150, "b", words)[1]
        moved = tuple((0, tuple(((), turn[1] + 140, ()) for turn in turns), ending) for _, turns, ending in other)
        for call in (lambda *told: is_equal(*told, ()), lambda *told: going_on(*told, ())):
            with self.assertRaises(TooMany) as caught:
                call((words, (*one, *moved)), 0, 140)
            self.assertEqual(caught.exception.most, 20000)
        with self.assertRaises(BadLink):
            is_equal((words, (*one, *moved)), 0, 140, None)

    def test_nothing_is_changed_and_the_same_is_told(self):
        flow = copy.deepcopy(TELLS)
        for p, q in itertools.product(range(6), range(6)):
            self.assertEqual(going_on(flow, p, q, ()), going_on(flow, p, q, ()))
            self.assertEqual(matches(flow, p, q), matches(flow, p, q))
        self.assertEqual(flow, TELLS)


class Matches(unittest.TestCase):
    def test_things_that_may_change_places(self):
        self.assertEqual(matches(TELLS, 2, 2), (((0, 0), (1, 1)), ((0, 1), (1, 0))))
        self.assertEqual(matches(TELLS, 1, 1), (((0, 0),),))
        self.assertEqual(matches(TELLS, 0, 0), ((),))
        three = asks(3, (0, 1, 2))
        self.assertEqual(len(matches(three, 3, 3)), 6)
        self.assertEqual(list(matches(three, 3, 3)), sorted(matches(three, 3, 3)))

    def test_things_that_may_not(self):
        flow = ((), (
            (0, (((), 1, (None,)),), YES),
            (1, (((), 1, (0,)), ((), 2, (0, None))), YES),
            (2, (((0,), 2, (0, 1)), ((0,), 2, (0, 1)), ((), 2, (0, 1))), YES)))
        # The first thing is told of both, so they may not change places.
        self.assertEqual(matches(flow, 2, 2), (((0, 0), (1, 1)),))

    def test_things_that_are_not_needed_stand_in_none(self):
        self.assertEqual(matches(TELLS, 3, 3), ((),))
        self.assertEqual(matches(TELLS, 3, 5), ((),))
        self.assertEqual(matches(TELLS, 4, 4), (((0, 0),),))
        flow = asks(4, (1, 3))
        self.assertEqual(matches(flow, 4, 4), (((1, 1), (3, 3)), ((1, 3), (3, 1))))

    def test_unlike_many_needed_things(self):
        self.assertEqual(matches(TELLS, 1, 2), ())
        self.assertEqual(matches(TELLS, 2, 1), ())
        self.assertEqual(matches(TELLS, 0, 1), ())

    def test_as_many_but_unequal(self):
        self.assertEqual(matches(TELLS, 0, 5), ())
        self.assertEqual(matches(TELLS, 1, 4), ())

    def test_five_needed_things_and_six(self):
        five = asks(5, range(5))
        self.assertEqual(len(matches(five, 5, 5)), 120)
        for flow in (asks(6, range(6)), asks(8, range(1, 8))):
            last = len(flow[1]) - 1
            for p, q in ((last, last), (last, 0), (0, last)):
                with self.assertRaises(TooMany) as caught:
                    matches(flow, p, q)
                self.assertEqual(caught.exception.most, 5)
        self.assertEqual(len(matches(asks(16, range(3)), 16, 16)), 6)

    def test_matches_are_the_links_of_needed_things_that_are_equal(self):
        for flow in [TELLS, asks(3, (0, 2))] + [flow_of(one) for one, _ in machine_pairs(10, 30)]:
            places = range(min(len(flow[1]), 6))
            needed = {}
            for p in places:
                things = range(flow[1][p][0])
                needed[p] = [at for at in things if not is_equal(flow, p, p, tuple((x, x) for x in things if x != at))]
            for p, q in itertools.product(places, places):
                wanted = [link for link in all_links(flow[1][p][0], flow[1][q][0])
                          if [x for x, _ in link] == needed[p] and sorted(y for _, y in link) == needed[q]
                          and is_equal(flow, p, q, link)]
                self.assertEqual(matches(flow, p, q), tuple(sorted(wanted)))


class Refusals(unittest.TestCase):
    def test_a_place_is_told_itself(self):
        for p in range(6):
            self.assertEqual(need_place(TELLS, p), p)

    def test_what_is_no_place(self):
        for thing in [*wrong_things(), -1, 6, "0", "", (), (0,), 10 ** 50]:
            for call in (lambda x: need_place(TELLS, x), lambda x: need_link(TELLS, x, None, None),
                         lambda x: need_link(TELLS, 0, x, None), lambda x: is_equal(TELLS, x, None, None),
                         lambda x: is_equal(TELLS, 0, x, None), lambda x: going_on(TELLS, x, None, None),
                         lambda x: going_on(TELLS, 0, x, None), lambda x: matches(TELLS, x, None),
                         lambda x: matches(TELLS, 0, x)):
                with self.assertRaises(BadPlace) as caught:
                    call(thing)
                self.assertIs(caught.exception.given, thing)

    def test_a_link_is_told_itself(self):
        for link in all_links(2, 2):
            self.assertIs(need_link(TELLS, 2, 2, link), link)
        self.assertEqual(need_link(TELLS, 1, 2, ((0, 1),)), ((0, 1),))

    def test_what_is_no_link(self):
        for thing in [*wrong_things(), 1, "ab", ((0,),), ((0, 0, 0),), ([0, 0],), (0, 0), ("ab",), ((0, True),), ((False, 0),),
                      ((0, 2),), ((2, 0),), ((0, -1),), ((-1, 0),), ((0, "0"),), ((0, None),), ((0, 0), (0, 1)),
                      ((0, 0), (1, 0)), ((1, 1), (0, 0)), ((0, 0), (0, 0)), ((0, Agrees()),), (Agrees(),), [(0, 0)]]:
            for call in (need_link, is_equal, going_on):
                with self.assertRaises(BadLink) as caught:
                    call(TELLS, 2, 2, thing)
                self.assertIs(caught.exception.given, thing)
        for p, q, thing in ((1, 2, ((1, 0),)), (2, 1, ((0, 1),)), (0, 0, ((0, 0),)), (1, 1, ((0, 0), (1, 1)))):
            with self.assertRaises(BadLink):
                need_link(TELLS, p, q, thing)

    def test_a_bad_flow_is_due_first(self):
        for call in (lambda x: need_place(x, None), lambda x: need_link(x, None, None, None),
                     lambda x: is_equal(x, None, None, None), lambda x: going_on(x, None, None, None),
                     lambda x: matches(x, None, None)):
            for thing in wrong_things():
                with self.assertRaises(BadFlow) as caught:
                    call(thing)
                self.assertEqual(caught.exception.place, ())
            with self.assertRaises(BadFlow) as caught:
                call(((), ((0, STILL, YES), (1, None, None))))
            self.assertEqual(caught.exception.place, (1, 1))


if __name__ == "__main__":
    unittest.main()
