"""Point 21, and the definitions of point 2 behind it."""

import string
import unittest

from vouchchains.words import (begins, is_count, is_day, is_holder, is_integer, is_name, is_pair,
                               is_word)
from kinds import EVERY_KIND, Other, deep

ALL = [is_integer, is_word, is_name, is_holder, is_day, is_count, is_pair]


class Answers(unittest.TestCase):

    def holds(self, asked, things):
        for thing in things:
            self.assertIs(asked(thing), True, repr(thing))

    def fails(self, asked, things):
        for thing in things:
            self.assertIs(asked(thing), False, repr(thing))


class Kinds(Answers):

    def test_each_thing_gets_true_or_false(self):
        for asked in ALL:
            for thing in EVERY_KIND + [deep(30), [0] * 19999, ("a",) * 19999, "a" * 19999]:
                self.assertIn(asked(thing), (True, False))
                self.assertIsInstance(asked(thing), bool)

    def test_the_same_thing_gets_the_same_answer_again(self):
        for asked in ALL:
            first = [asked(thing) for thing in EVERY_KIND]
            self.assertEqual([asked(thing) for thing in EVERY_KIND], first)

    def test_each_kind_takes_just_these_of_the_things_of_every_kind(self):
        words = ["a", "abcdefgh", "lists", "all"]
        numbers = [0, 1, -1, 7, 8, 9, 10 ** 9, 10 ** 9 + 1, -10 ** 39, 10 ** 39]
        names = [(), ("a",), ("a", "k"), ("a", "b"), ("a", "b", "c")]
        taken = {
            is_integer: numbers, is_word: words, is_name: names,
            is_holder: [((), "k"), (("a",), "k")], is_day: [0, 1, 7, 8, 9, 10 ** 9],
            is_count: [None, 0, 1, 7, 8], is_pair: [("a", "k"), ("a", "b")],
        }
        for asked in ALL:
            found = [thing for thing in EVERY_KIND if asked(thing)]
            kinds = {(type(thing), thing) for thing in found}
            self.assertEqual(kinds, {(type(thing), thing) for thing in taken[asked]}, asked)


class Integers(Answers):

    def test_integers_of_any_size(self):
        self.holds(is_integer, [0, 1, -1, 8, 10 ** 39, -10 ** 39])

    def test_true_and_false_are_none(self):
        for asked in (is_integer, is_day, is_count):
            self.fails(asked, [True, False])

    def test_other_things_are_none(self):
        self.fails(is_integer, [None, "1", b"1", (1,), [1], {1: 1}, {1}, int, Other()])

    def test_days_at_each_bound(self):
        self.holds(is_day, [0, 1, 999999999, 1000000000])
        self.fails(is_day, [-1, 1000000001, 10 ** 39, None, "0", (0,), [0]])

    def test_counts_at_each_bound(self):
        self.holds(is_count, [None, 0, 1, 2, 3, 4, 5, 6, 7, 8])
        self.fails(is_count, [-1, 9, 10 ** 39, "8", (), (8,), [8], "all"])


class Words(Answers):

    def test_one_to_eight_letters(self):
        self.holds(is_word, ["a" * many for many in range(1, 9)])
        self.fails(is_word, ["", "a" * 9, "a" * 16, "a" * 19999])

    def test_each_letter_from_a_to_z_at_each_place(self):
        for letter in string.ascii_lowercase:
            self.holds(is_word, [letter, "b" + letter, letter + "b", "b" + letter + "b"])

    def test_any_other_sign_at_each_place(self):
        others = [chr(code) for code in range(32, 127) if chr(code) not in string.ascii_lowercase]
        for sign in others + ["\n"]:
            self.fails(is_word, [sign, "b" + sign, sign + "b", "b" + sign + "b"])

    def test_words_in_other_things_are_none(self):
        self.fails(is_word, [None, b"a", ("a",), ["a"], {"a": "a"}, {"a"}, 1, True])


class Names(Answers):

    def test_no_labels_and_many(self):
        self.holds(is_name, [(), ("a",), ("a", "a"), ("a",) * 6, ("abcdefgh",) * 7, ("z",) * 500])

    def test_each_label_is_a_word(self):
        self.fails(is_name, [("",), ("A",), ("a", ""), ("a", "b", "c1"), ("abcdefghi",), (None,),
                             (1,), (("a",),), (["a"],), ("a", True), (b"a",)])

    def test_only_tuples_are_names(self):
        self.fails(is_name, [[], ["a"], "a", "", None, {}, {"a": 1}, set(), {"a"}, 0, Other()])

    def test_holders(self):
        self.holds(is_holder, [((), "k"), (("a",), "k"), (("a", "b"), "abcdefgh"), (("a",) * 9, "k")])

    def test_what_is_no_holder(self):
        self.fails(is_holder, [
            (), ((),), ((), "k", "k"), ("a", "k"), ("k", ()), ((), ""), ((), "K"), ((), "abcdefghi"),
            ((), None), ((), 1), ((), ("k",)), (["a"], "k"), ([], "k"), (("",), "k"), (("A",), "k"),
            [(), "k"], [("a",), "k"], "ak", None, {}, {(): "k"}, ((), "k", ()), (None, "k")])

    def test_pairs(self):
        self.holds(is_pair, [("a", "a"), ("a", "b"), ("abcdefgh", "z")])

    def test_what_is_no_pair(self):
        self.fails(is_pair, [
            (), ("a",), ("a", "b", "c"), ["a", "b"], "ab", ("", "a"), ("a", ""), ("A", "a"),
            ("a", "A"), ("a", None), (None, "a"), (("a",), "b"), ("a", ["b"]), {"a": "b"}, None,
            ("abcdefghi", "a"), ("a", "abcdefghi"), (1, 2), (True, False), {"a", "b"}])


class Beginnings(unittest.TestCase):

    def test_every_name_begins_with_the_one_of_no_labels(self):
        for other in [(), ("a",), ("a", "b"), ("a",) * 40]:
            self.assertIs(begins((), other), True)

    def test_a_name_begins_with_itself(self):
        for name in [("a",), ("a", "b"), ("b", "a", "b")]:
            self.assertIs(begins(name, name), True)

    def test_longer_names_begin_with_it(self):
        self.assertIs(begins(("a",), ("a", "b")), True)
        self.assertIs(begins(("a",), ("a", "b", "c")), True)
        self.assertIs(begins(("a", "b"), ("a", "b", "a", "b")), True)

    def test_shorter_names_do_not(self):
        self.assertIs(begins(("a",), ()), False)
        self.assertIs(begins(("a", "b"), ("a",)), False)

    def test_unlike_names_do_not(self):
        self.assertIs(begins(("a",), ("b",)), False)
        self.assertIs(begins(("a",), ("ab",)), False)
        self.assertIs(begins(("ab",), ("a", "b")), False)
        self.assertIs(begins(("a", "b"), ("a", "c", "b")), False)
        self.assertIs(begins(("b",), ("a", "b")), False)
        self.assertIs(begins(("b", "c"), ("a", "b", "c")), False)


if __name__ == "__main__":
    unittest.main()
