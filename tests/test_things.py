"""[2] THINGS, WORDS and LISTS, [8] PLAIN LISTS."""

import unittest

from onlyalike.errors import BadList, BadWords
from onlyalike.things import is_plain_list, is_thing, need_list, need_words, plain_list
from made import Agrees, wrong_things

ALPHABET = ("a", "b", "c", "d", "e", "f", "g", "h", "i")
NO_WORDS = ["ab", 1, ["a"], ("a", "a"), ("b", "a"), ("a", "ab", "aa"), ("",), ("abcdefg",), ("A",), ("a b",), ("a\n",),
            ("a1",), (1,), (True,), (None,), (b"a",), (("a",),), (Agrees(),), ("a", Agrees()), ("`",), ("{",), ALPHABET]
NO_LISTS = ["ab", 1, [1], {1: 2}, (True,), (1, False), (None,), (b"a",), ((),), ((1,),), ("",), ("a\nb",), ("\n",),
            ("a" * 21,), ([],), ({},), (set(),), (Agrees(),), (len,), (1,) * 1001]


class Things(unittest.TestCase):
    def test_integers_and_strings_are_things(self):
        for thing in (0, 1, -1, 10 ** 59, -10 ** 59, "1", "a", " ", "a" * 20, "A b~", "same"):
            self.assertIs(is_thing(thing), True, thing)

    def test_others_are_none(self):
        for thing in [*wrong_things(), "", "a" * 21, "\n", "a\n", "\na", "a\nb", (), (1,), ("a",)]:
            self.assertIs(is_thing(thing), False, repr(thing))

    def test_a_list_is_told_itself(self):
        for things in ((), (1,), ("1", 1), (0,) * 1000, ("a" * 20, -5)):
            self.assertIs(need_list(things), things)

    def test_what_is_no_list_is_refused_with_itself(self):
        for thing in [*wrong_things(), *NO_LISTS]:
            with self.assertRaises(BadList) as caught:
                need_list(thing)
            self.assertIs(caught.exception.given, thing)

    def test_words_are_told_themselves(self):
        for words in ((), ("a",), ("a", "aa", "b"), ("abcdef", "z", "zz"), ALPHABET[:8]):
            self.assertIs(need_words(words), words)

    def test_what_are_no_words_is_refused_with_itself(self):
        for thing in [*wrong_things(), *NO_WORDS]:
            with self.assertRaises(BadWords) as caught:
                need_words(thing)
            self.assertIs(caught.exception.given, thing)


class PlainLists(unittest.TestCase):
    def test_words_stay_and_other_things_are_numbered_as_they_come(self):
        self.assertEqual(plain_list((), ()), ())
        self.assertEqual(plain_list(("a",), ("x", "a", "y", "x", 7, "a", 7)), (0, "a", 1, 0, 2, "a", 2))
        self.assertEqual(plain_list((), ("a", "x", "a")), (0, 1, 0))
        self.assertEqual(plain_list(("a", "b"), (5, 4, 5, "b")), (0, 1, 0, "b"))

    def test_a_string_is_not_like_the_integer(self):
        self.assertEqual(plain_list((), (1, "1", 1, "1", 0)), (0, 1, 0, 1, 2))

    def test_the_same_call_tells_the_same_and_changes_nothing(self):
        things = ("x", 3, "x", "a")
        self.assertEqual(plain_list(("a",), things), plain_list(("a",), things))
        self.assertEqual(things, ("x", 3, "x", "a"))

    def test_words_are_refused_ahead_of_the_list(self):
        for thing in [*wrong_things(), *NO_WORDS]:
            with self.assertRaises(BadWords) as caught:
                plain_list(thing, [])
            self.assertIs(caught.exception.given, thing)
            with self.assertRaises(BadWords):
                is_plain_list(thing, None)
        for thing in [*wrong_things(), *NO_LISTS]:
            with self.assertRaises(BadList) as caught:
                plain_list(("a",), thing)
            self.assertIs(caught.exception.given, thing)

    def test_what_is_a_plain_list(self):
        for words, thing in (((), ()), ((), (0,)), (("a",), ("a", 0, 1, 0, "a", 2)), ((), tuple(range(1000))),
                             ((), (0,) * 1000), (("a", "b"), ("b", "b", 0, "a"))):
            self.assertIs(is_plain_list(words, thing), True, (words, thing))

    def test_what_is_nearly_one(self):
        for words, thing in (((), (1,)), ((), (0, 2)), ((), (-1,)), ((), (0, 1, 3)), ((), ("a",)), (("a",), (0, "b")),
                             ((), ("0",)), ((), (0, "1")), ((), (False,)), ((), (0, True)), ((), [0]), ((), (0, None)),
                             ((), tuple(range(1001))), ((), (0,) * 1001), (("a",), "a"), ((), ((0,),)),
                             ((), (0, Agrees())), (("a",), (Agrees(),)), ((), Agrees())):
            self.assertIs(is_plain_list(words, thing), False, (words, thing))
        for thing in wrong_things():
            self.assertIs(is_plain_list((), thing), False)


if __name__ == "__main__":
    unittest.main()
