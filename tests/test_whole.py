"""[1] over the whole program: what was passed stays, equal calls tell equal results, errors come in the order of the arguments."""

import copy
import importlib
import inspect
import unittest

from onlyalike import errors
from onlyalike.alike import alike_paper
from onlyalike.desk import Desk
from onlyalike.flows import flow_of
from onlyalike.guards import guard_paper
from onlyalike.keeppapers import classes_paper, need_paper
from onlyalike.losses import loss_paper
from onlyalike.runner import Runner, under
from onlyalike.shelf import Shelf
from onlyalike.texts import machine_text
from onlyalike.within import within_paper
from made import FIRST_TWO, NEIGHBOUR, NEIGHBOUR_FLOW, NEIGHBOUR_TOO, Agrees, Plain, go, one_state
from test_language import CLASSES, INTERFACE

SILENT = one_state(go())
FLOW = flow_of(FIRST_TWO)
PIPE = (FLOW, NEIGHBOUR_FLOW)
CONDITION = ("some", ("like", ("now",), ("back", 1)))
FILTER = (((CONDITION[1], (("now",), ("word", "a"))),), (("first",),))
LIST = ("x", 1, "x", "same")
PLAIN = (0, 1, 0, "same")
LINK = ((0, 0),)
SEVEN = ("a", "b", "c", "d", "e", "f", "same")
# For each name of the interface that is a function: arguments that are good, and for each of them the error of one that is
# not; None where there is none.
CALLS = {
    "things": {
        "is_thing": (("x",), (None,)), "need_list": ((LIST,), ("BadList",)), "need_words": ((SEVEN,), ("BadWords",)),
        "plain_list": ((SEVEN, LIST), ("BadWords", "BadList")), "is_plain_list": ((SEVEN, PLAIN), ("BadWords", None))},
    "machines": {
        "need_machine": ((NEIGHBOUR,), ("BadMachine",)), "behaviour_for": ((NEIGHBOUR, LIST), ("BadMachine", "BadList")),
        "pattern_behind": ((NEIGHBOUR, LIST), ("BadMachine", "BadList"))},
    "flows": {
        "need_flow": ((FLOW,), ("BadFlow",)), "flow_of": ((NEIGHBOUR,), ("BadMachine",)),
        "flow_over": ((NEIGHBOUR, SEVEN), ("BadMachine", "BadWords")), "patterns_of": ((NEIGHBOUR_TOO,), ("BadMachine",)),
        "ways_to": ((FLOW,), ("BadFlow",)), "run_flow": ((FLOW, LIST), ("BadFlow", "BadList")),
        "place_behind": ((FLOW, LIST), ("BadFlow", "BadList")), "leaves_met": ((NEIGHBOUR_TOO,), ("BadMachine",))},
    "alike": {
        "are_alike": ((NEIGHBOUR, SILENT), ("BadMachine",) * 2), "parting_of": ((NEIGHBOUR, SILENT), ("BadMachine",) * 2),
        "flows_alike": ((FLOW, FLOW), ("BadFlow",) * 2), "flows_parting": ((FLOW, FLOW), ("BadFlow",) * 2),
        "alike_paper": ((NEIGHBOUR, NEIGHBOUR_TOO), ("BadMachine",) * 2),
        "check_alike": ((NEIGHBOUR, NEIGHBOUR_TOO, alike_paper(NEIGHBOUR, NEIGHBOUR_TOO)), ("BadMachine", "BadMachine", "BadPaper"))},
    "insum": {
        "alike_in_sum": ((NEIGHBOUR, SILENT), ("BadMachine",) * 2), "parting_in_sum": ((NEIGHBOUR, SILENT), ("BadMachine",) * 2)},
    "within": {
        "is_within": ((NEIGHBOUR, SILENT), ("BadMachine",) * 2), "escape_of": ((NEIGHBOUR, SILENT), ("BadMachine",) * 2),
        "within_paper": ((NEIGHBOUR, SILENT), ("BadMachine",) * 2),
        "check_within": ((NEIGHBOUR, SILENT, within_paper(NEIGHBOUR, SILENT)), ("BadMachine", "BadMachine", "BadPaper"))},
    "equal": {
        "need_place": ((FLOW, 2), ("BadFlow", "BadPlace")), "need_link": ((FLOW, 2, 1, LINK), ("BadFlow", "BadPlace", "BadPlace", "BadLink")),
        "is_equal": ((FLOW, 2, 1, LINK), ("BadFlow", "BadPlace", "BadPlace", "BadLink")),
        "going_on": ((FLOW, 2, 1, LINK), ("BadFlow", "BadPlace", "BadPlace", "BadLink")),
        "matches": ((FLOW, 2, 2), ("BadFlow", "BadPlace", "BadPlace"))},
    "needed": {
        "needed_at": ((FLOW, 2), ("BadFlow", "BadPlace")), "need_of": ((FIRST_TWO,), ("BadMachine",)),
        "needed_behind": ((NEIGHBOUR_TOO, LIST), ("BadMachine", "BadList"))},
    "least": {
        "classes_of": ((FLOW,), ("BadFlow",)), "least_flow": ((FLOW,), ("BadFlow",)), "tidy": ((FLOW,), ("BadFlow",)),
        "same_class": ((NEIGHBOUR, LIST, LIST[:2]), ("BadMachine", "BadList", "BadList"))},
    "needless": {
        **{name: ((NEIGHBOUR_TOO,), ("BadMachine",)) for name in ("unmet", "settled", "unused", "idle", "cleaned")},
        "dead_places": ((FLOW,), ("BadFlow",))},
    "keeppapers": {
        "need_paper": ((FIRST_TWO,), ("BadMachine",)), "check_need": ((FIRST_TWO, need_paper(FIRST_TWO)), ("BadMachine", "BadPaper")),
        "classes_paper": ((FIRST_TWO,), ("BadMachine",)),
        "check_classes": ((FIRST_TWO, classes_paper(FIRST_TWO)), ("BadMachine", "BadPaper"))},
    "conditions": {
        **{name: ((CONDITION,), ("BadCondition",)) for name in
           ("need_condition", "kept_by_form", "words_of_condition", "compile_condition")},
        "does_hold": ((CONDITION, LIST), ("BadCondition", "BadList"))},
    "filters": {
        "need_filter": ((FILTER,), ("BadFilter",)), "sift_list": ((FILTER, LIST), ("BadFilter", "BadList")),
        "make_filter": ((FILTER,), ("BadFilter",))},
    "verdicts": {
        **{name: ((NEIGHBOUR_FLOW, FLOW), ("BadFlow",) * 2) for name in
           ("flow_both", "flow_either", "flow_without", "same_verdicts", "unlike_verdicts")},
        "flow_turned": ((FLOW,), ("BadFlow",)), "first_with": ((FLOW, "yes"), ("BadFlow", "BadVerdict"))},
    "pipes": {
        **{name: ((PIPE,), ("BadPipe",)) for name in ("need_pipe", "pipe_as_flow", "may_turn_stages", "needless_stages")},
        "run_pipe": ((PIPE, LIST), ("BadPipe", "BadList"))},
    "guards": {
        "breach_of": ((PIPE, FLOW, NEIGHBOUR_FLOW), ("BadPipe", "BadFlow", "BadFlow")),
        "guard_paper": ((PIPE, FLOW, None), ("BadPipe", "BadFlow", "BadFlow")),
        "check_guard": ((PIPE, FLOW, FLOW, guard_paper(PIPE, FLOW, FLOW)), ("BadPipe", "BadFlow", "BadFlow", "BadPaper"))},
    "counts": {
        "count_lists": ((NEIGHBOUR, "yes", 4, 3), ("BadMachine", "BadVerdict", "BadNumber", "BadNumber")),
        "list_at": ((NEIGHBOUR, "yes", 4, 3, 7), ("BadMachine", "BadVerdict", "BadNumber", "BadNumber", "BadNumber")),
        "list_number": ((NEIGHBOUR, "yes", 3, PLAIN), ("BadMachine", "BadVerdict", "BadNumber", "BadList")),
        "lists_in_all": ((2, 4, 3), ("BadNumber",) * 3), "range_of": ((FIRST_TWO, "yes", 4), ("BadMachine", "BadVerdict", "BadNumber"))},
    "losses": {
        **{name: ((FIRST_TWO, True), ("BadMachine", "BadNumber")) for name in ("loss_of", "does_keep", "loss_paper")},
        "check_loss": ((FIRST_TWO, True, loss_paper(FIRST_TWO, True)), ("BadMachine", "BadNumber", "BadPaper"))},
    "texts": {
        "machine_text": ((FIRST_TWO,), ("BadMachine",)), "list_text": ((NEIGHBOUR, PLAIN), ("BadMachine", "BadList")),
        "read_machine": ((machine_text(FIRST_TWO),), ("BadText",)), "read_list": ((NEIGHBOUR, "0 1 same"), ("BadMachine", "BadText"))},
    "judge": {
        "judged": ((("within", NEIGHBOUR, SILENT), within_paper(NEIGHBOUR, SILENT)), ("BadClaim", "BadPaper"))},
}


def all_calls():
    for module, entries in CALLS.items():
        for name, (good, kinds) in entries.items():
            yield getattr(importlib.import_module("onlyalike." + module), name), good, kinds


def wrong():
    """Things that are wrong wherever something else than anything is asked for, made anew."""
    return [[1, [2], {"a": [3]}], {"a": [1]}, b"a", Plain(), Agrees(), {1, 2}]


class All(unittest.TestCase):
    def test_the_table_has_each_function(self):
        for file, names in INTERFACE.items():
            if file not in ("errors.py", "runner.py", "shelf.py", "desk.py"):
                self.assertEqual({name.split("(")[0] for name in names}, set(CALLS[file[:-3]]), file)
        self.assertEqual(sum(map(len, CALLS.values())), len(list(all_calls())))

    def test_good_calls(self):
        for call, good, _ in all_calls():
            kept = copy.deepcopy(good)
            told = call(*good)
            self.assertEqual(repr(good), repr(kept), call)
            self.assertEqual(good, kept)
            again = call(*kept)
            self.assertEqual(told, again, call)
            self.assertEqual(repr(told), repr(again))
            self.assertTrue(told is None or isinstance(told, (bool, int, str, tuple)), call)

    def test_arguments_stand_as_the_document_has_them(self):
        for call, good, kinds in all_calls():
            parameters = list(inspect.signature(call).parameters.values())
            self.assertEqual(len(parameters), len(good))
            self.assertEqual(len(kinds), len(good))
            for parameter in parameters:
                self.assertIs(parameter.default, inspect.Parameter.empty)
                self.assertEqual(parameter.kind, inspect.Parameter.POSITIONAL_OR_KEYWORD)

    def test_errors_in_the_order_of_the_arguments(self):
        for call, good, kinds in all_calls():
            for at, kind in enumerate(kinds):
                if kind is None:
                    for thing in wrong():
                        call(*good[:at], thing)
                    continue
                for thing in wrong():
                    rest = [copy.deepcopy(thing) if isinstance(thing, (list, dict)) else thing for _ in good[at:]]
                    kept = copy.deepcopy(rest) if isinstance(thing, (list, dict)) else None
                    # Wrong from here on: the error is that of the first one.
                    with self.assertRaises(getattr(errors, kind)) as caught:
                        call(*good[:at], *rest)
                    self.assertIs(type(caught.exception), getattr(errors, kind), call)
                    for name, wanted in (("given", rest[0]), ("number", rest[0]), ("part", "form"), ("place", ())):
                        if hasattr(caught.exception, name) and kind not in ("BadPipe", "BadText"):
                            self.assertIs(type(getattr(caught.exception, name)), type(wanted), call)
                            if name in ("given", "number"):
                                self.assertIs(getattr(caught.exception, name), wanted, call)
                            else:
                                self.assertEqual(getattr(caught.exception, name), wanted, call)
                    if kept is not None:
                        self.assertEqual(rest, kept)

    def test_what_is_refused_stays(self):
        # Mutable things in the midst of what is otherwise good.
        for call, good, kinds in all_calls():
            for at, kind in enumerate(kinds):
                if isinstance(good[at], tuple) and kind is not None and good[at]:
                    wrong_one = (*good[at][:-1], [list(good[at][-1:])])
                    kept = copy.deepcopy(wrong_one)
                    with self.assertRaises(errors.AlikeError):
                        call(*good[:at], wrong_one, *good[at + 1:])
                    self.assertEqual(wrong_one, kept)
                    self.assertEqual(repr(wrong_one), repr(kept))

    def test_each_name_is_where_it_is_listed(self):
        for file, names in INTERFACE.items():
            module = importlib.import_module("onlyalike." + file[:-3])
            for name in names:
                self.assertEqual(getattr(module, name.split("(")[0]).__module__, module.__name__)
        for kind in (Runner, Shelf, Desk):
            for entry in CLASSES[kind.__name__]:
                self.assertIn(entry.split("(")[0].split(" ")[-1], vars(kind))
        self.assertEqual(under.__module__, "onlyalike.runner")

    def test_all_errors_of_the_package_are_caught_by_their_bases(self):
        for call, kind in ((lambda: Runner(None), ValueError), (lambda: Shelf()["a"], KeyError), (lambda: Desk(1), ValueError)):
            with self.assertRaises(kind):
                call()


class Objects(unittest.TestCase):
    def test_nothing_is_told_back_where_nothing_is_to_be(self):
        runner, shelf = Runner(NEIGHBOUR), Shelf()
        shelf["a"] = NEIGHBOUR
        for told in (runner.swap(NEIGHBOUR_TOO), runner.slim(), shelf.replace("a", NEIGHBOUR_TOO), shelf.forget("a")):
            self.assertIsNone(told)

    def test_objects_stand_by_themselves(self):
        one, other = Runner(NEIGHBOUR), Runner(NEIGHBOUR)
        one.feed(1)
        self.assertEqual((len(one), len(other)), (1, 0))
        one, other = Shelf(), Shelf()
        one["a"] = NEIGHBOUR
        self.assertEqual((len(one), len(other)), (1, 0))
        one, other = Desk(machine_text(NEIGHBOUR)), Desk(machine_text(NEIGHBOUR))
        one.say("feed 1")
        self.assertEqual((one.say("fed"), other.say("fed")), ("1", "0"))

    def test_they_are_no_keys(self):
        # What can change and is compared by what it has, has no hash.
        for thing in (Runner(NEIGHBOUR), Shelf()):
            with self.assertRaises(TypeError):
                hash(thing)


if __name__ == "__main__":
    unittest.main()
