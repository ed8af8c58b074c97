"""3.1: which texts fit, and how many trees they have."""

import math
import unittest

from tastegrove.counts import fits, many
from tests.samples import (A, AB, B, BLANK, NONE, ONE_MORE, PATTERNS, SIGNS, SIXTY, TWO_HUNDRED, again, chance_patterns,
                           held, pick, price, row, slow_trees, texts_up_to)


class FitsAndMany(unittest.TestCase):
    def test_each_kind(self):
        table = ((NONE, "", 0), (NONE, "a", 0), (BLANK, "", 1), (BLANK, "a", 0), (A, "a", 1), (A, "", 0), (A, "b", 0),
                 (A, "aa", 0), (AB, "b", 1), (row(A, B), "ab", 1), (row(A, B), "ba", 0), (row(A, B), "a", 0),
                 (row(A, B), "abb", 0), (row(A, A), "aa", 1), (row(A, NONE), "a", 0), (row(BLANK, BLANK), "", 1),
                 (pick(A, B), "a", 1), (pick(A, A), "a", 2), (pick(A, A, A, A, A, A), "a", 6), (pick(A, A), "aa", 0),
                 (pick(A, B), "c", 0), (pick(BLANK, BLANK), "", 2), (pick(NONE, A), "a", 1), (pick(NONE, NONE), "", 0),
                 (again(A), "", 1), (again(A), "aaa", 1), (again(A), "aab", 0), (again(NONE), "", 1),
                 (again(NONE), "a", 0), (again(pick(A, A)), "aaa", 8), (again(pick(A, row(A, A))), "aaaa", 5),
                 (row(again(A), again(A)), "aaa", 4), (row(again(A), again(A), again(A)), "aaa", 10),
                 (row(pick(A, A), pick(A, A)), "aa", 4), (held("x", A), "a", 1), (held("x", A), "b", 0),
                 (held("x", NONE), "", 0), (price(3, pick(A, A)), "a", 2), (price(0, BLANK), "", 1),
                 (again(row(A, again(A))), "aaaa", 8), (("sign", SIGNS), "~", 1), (again(("sign", SIGNS)), " ~aZ", 1))
        for pattern, text, number in table:
            self.assertEqual(many(pattern, text), number, (pattern, text))
            self.assertIs(fits(pattern, text), number > 0, (pattern, text))

    def test_by_the_trees_there_are(self):
        for pattern in PATTERNS + tuple(chance_patterns(41, 250, 4)):
            for text in texts_up_to("ab", 4):
                number = len(slow_trees(pattern, text))
                self.assertEqual(many(pattern, text), number, (pattern, text))
                self.assertIs(fits(pattern, text), number > 0, (pattern, text))

    def test_sixty_signs_with_very_many_trees(self):
        self.assertEqual(many(again(pick(A, A)), SIXTY), 2 ** 60)
        self.assertEqual(many(again(pick(A, A, A, A, A, A)), SIXTY), 6 ** 60)
        self.assertEqual(many(("row", (again(A),) * 6), SIXTY), math.comb(65, 5))
        self.assertEqual(many(again(row(A, again(A))), SIXTY), 2 ** 59)
        six = ("row", (again(A),) * 6)
        self.assertEqual(many(row(six, six, six[:1] + (six[1][:3],)), SIXTY), math.comb(74, 14))
        self.assertEqual(many(again(row(six, A)), "a" * 59 + "b"), 0)
        before, number = 1, 1
        for k in range(59):
            before, number = number, before + number
        self.assertEqual(many(again(pick(A, row(A, A))), SIXTY), number)
        for pattern in (again(pick(A, A)), six, again(row(A, again(A)))):
            self.assertIs(fits(pattern, SIXTY), True)
            self.assertIs(fits(pattern, "a" * 59 + "b"), False)
            self.assertIs(fits(pattern, "b" + "a" * 59), False)

    def test_two_hundred_and_one_more(self):
        self.assertEqual(many(TWO_HUNDRED, SIXTY), 200)
        self.assertEqual(many(ONE_MORE, SIXTY), 201)

    def test_longer_texts(self):
        self.assertEqual(many(row(again(A), again(A)), "a" * 150), 151)
        self.assertIs(fits(again(AB), "ab" * 200), True)
        self.assertIs(fits(again(AB), "ab" * 200 + "c"), False)

    def test_the_same_question_has_the_same_answer(self):
        once = [(fits(pattern, "aab"), many(pattern, "aab")) for pattern in PATTERNS]
        back = [(fits(pattern, "aab"), many(pattern, "aab")) for pattern in PATTERNS[::-1]][::-1]
        self.assertEqual(once, back)


if __name__ == "__main__":
    unittest.main()
