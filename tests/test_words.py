"""0.2 and 0.3: whole numbers, texts, words, refusals."""

import unittest

from tastegrove import errors
from tastegrove.words import is_text, is_whole, is_word
from tests.samples import SIGNS

REFUSALS = ("NoTree", "NoTaste", "TooMany", "NoText", "NoName", "NoRow")
NO_TEXTS = (0, 1, -1, 10 ** 40, True, False, None, (), ("a",), ("a", "b"), [], ["a"], {}, {"a": 1})


class WholeNumbers(unittest.TestCase):
    def test_whole_numbers(self):
        for thing in (0, 1, -1, 7, 1000, -10 ** 40, 10 ** 400):
            self.assertIs(is_whole(thing), True)

    def test_true_and_false_are_none(self):
        self.assertIs(is_whole(True), False)
        self.assertIs(is_whole(False), False)

    def test_other_things_are_none(self):
        for thing in (None, "", "1", "-1", "a", (), (1,), [], [1], {}, {1: 1}):
            self.assertIs(is_whole(thing), False)


class Texts(unittest.TestCase):
    def test_each_sign_is_a_text(self):
        self.assertEqual(len(SIGNS), 94)
        for sign in SIGNS:
            self.assertIs(is_text(sign), True)

    def test_texts_of_any_length(self):
        self.assertIs(is_text(""), True)
        self.assertIs(is_text(SIGNS), True)
        for length in (1, 2, 59, 60, 61, 200, 600, 5000):
            self.assertIs(is_text("a" * length), True)
            self.assertIs(is_text("~ " * length), True)

    def test_line_feeds_and_tabs_are_no_signs(self):
        for text in ("\n", "\t", "a\n", "\na", "a\tb", "\t\n", "a" * 300 + "\n", "\n" + "a" * 300, " \n "):
            self.assertIs(is_text(text), False)

    def test_other_things_are_none(self):
        for thing in NO_TEXTS:
            self.assertIs(is_text(thing), False)


class Words(unittest.TestCase):
    def test_one_to_eight_letters(self):
        for length in range(1, 9):
            self.assertIs(is_word("a" * length), True)
            self.assertIs(is_word("z" * length), True)
        self.assertIs(is_word("abcdefgh"), True)

    def test_no_letters_and_too_many(self):
        for length in (0, 9, 10, 60, 61, 1000):
            self.assertIs(is_word("a" * length), False)
        self.assertIs(is_word("abcdefghi"), False)

    def test_each_letter_and_no_other_sign(self):
        for sign in SIGNS:
            small = sign in "abcdefghijklmnopqrstuvwxyz"
            for word in (sign, sign + "a", "a" + sign, "ab" + sign + "cd", "aaaaaaa" + sign):
                self.assertIs(is_word(word), small, word)

    def test_line_feeds_and_tabs(self):
        for text in ("\n", "\t", "a\n", "\na", "a\tb", "word\n"):
            self.assertIs(is_word(text), False)

    def test_other_things_are_none(self):
        for thing in NO_TEXTS:
            self.assertIs(is_word(thing), False)

    def test_the_same_question_has_the_same_answer(self):
        things = ("word", "", "a" * 9, "a" * 300, "\n", True, 1, None, (1,))
        once = [(is_word(thing), is_text(thing), is_whole(thing)) for thing in things]
        again = [(is_word(thing), is_text(thing), is_whole(thing)) for thing in things]
        self.assertEqual(once, again)

    def test_nothing_handed_in_is_changed(self):
        things, table = ["a", ["b"]], {"a": ["b"]}
        for asked in (is_word, is_text, is_whole):
            asked(things)
            asked(table)
        self.assertEqual(things, ["a", ["b"]])
        self.assertEqual(table, {"a": ["b"]})


class Refusals(unittest.TestCase):
    def test_grove_error_stands_straight_beneath_value_error(self):
        self.assertEqual(errors.GroveError.__bases__, (ValueError,))

    def test_each_stands_straight_beneath_grove_error(self):
        for name in REFUSALS:
            self.assertEqual(getattr(errors, name).__bases__, (errors.GroveError,))

    def test_each_is_made_of_a_text(self):
        for name in REFUSALS + ("GroveError",):
            refusal = getattr(errors, name)("why it is so")
            self.assertIsInstance(refusal, errors.GroveError)
            self.assertIsInstance(refusal, ValueError)
            self.assertEqual(str(refusal), "why it is so")

    def test_none_is_another(self):
        for name in REFUSALS:
            refusal = getattr(errors, name)("why")
            for other in REFUSALS:
                self.assertEqual(isinstance(refusal, getattr(errors, other)), name == other)

    def test_each_is_raised_and_taken_as_itself(self):
        for name in REFUSALS:
            with self.assertRaises(getattr(errors, name)):
                raise getattr(errors, name)("why")


if __name__ == "__main__":
    unittest.main()
