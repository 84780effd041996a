"""[1] and the interface: the error classes."""

import unittest

from onlyalike import errors
from made import wrong_things

GIVEN = ("BadThing", "BadList", "BadWords", "BadPlace", "BadLink", "BadCondition", "BadFilter", "BadVerdict", "BadWord",
         "BadClaim", "Parts")
NUMBER = ("BadNumber", "BadPipe", "BadRow", "BadJournal")
SINGLE = {**{name: "given" for name in GIVEN}, **{name: "number" for name in NUMBER},
          "BadMachine": "place", "BadFlow": "place", "BadPaper": "part"}


class Errors(unittest.TestCase):
    def test_classes_stand_straight_under_the_named_one(self):
        self.assertEqual(errors.AlikeError.__bases__, (ValueError,))
        self.assertEqual(errors.TooMany.__bases__, (OverflowError,))
        self.assertEqual(errors.Missing.__bases__, (KeyError,))
        for name in [*SINGLE, "BadText", "BadQuestion"]:
            self.assertEqual(getattr(errors, name).__bases__, (errors.AlikeError,), name)

    def test_there_are_no_others(self):
        names = {name for name in vars(errors) if not name.startswith("_")}
        self.assertEqual(names, {"AlikeError", "TooMany", "Missing", "BadText", "BadQuestion", *SINGLE})
        for name in names:
            self.assertEqual(getattr(errors, name).__module__, "onlyalike.errors")

    def test_the_argument_is_the_attribute_whatever_it_is(self):
        for name, attribute in [*SINGLE.items(), ("TooMany", "most"), ("Missing", "given")]:
            for thing in [*wrong_things(), (1, 2), "some text", 300]:
                error = getattr(errors, name)(thing)
                self.assertIs(getattr(error, attribute), thing, name)
                self.assertIsInstance(str(error), str)

    def test_bad_text_has_two(self):
        for thing in wrong_things():
            error = errors.BadText(thing, (1,))
            self.assertIs(error.line, thing)
            self.assertEqual(error.place, (1,))

    def test_a_question_is_refused_with_a_text(self):
        self.assertIn("unlike", str(errors.BadQuestion("unlike words")))
        for thing in wrong_things():
            self.assertIsInstance(errors.BadQuestion(thing), errors.AlikeError)


if __name__ == "__main__":
    unittest.main()
