"""3.1: the trees of a text by their numbers."""

import unittest

from tastegrove.counts import many
from tastegrove.errors import GroveError, NoTree, TooMany
from tastegrove.numbers import number_of, tree_at, trees
from tastegrove.trees import is_tree, text_of
from tests.samples import (A, B, BLANK, NONE, ONE_MORE, PAIR, PATTERNS, SIXTEEN, SIXTY, TWO_HUNDRED, again,
                           chance_patterns, held, pick, price, row, slow_marks, slow_trees, texts_up_to)

TA = ("sign", "a")
HUGE = 10 ** 90
VERY_MANY = (
    again(pick(A, A)),
    ("row", (again(A),) * 6),
    again(pick(A, row(A, A), row(A, A, A))),
    again(row(A, again(row(A, again(A))))),
    again(row(again(A), pick(A, A, price(2, row(A, A))))),
    row(again(pick(row(A, A), A)), held("x", again(row(A, again(pick(A, A))))), pick(BLANK, A, again(A))),
)


class Trees(unittest.TestCase):
    def test_in_the_order_of_their_marks(self):
        self.assertEqual(trees(pick(A, B, A), "a"), [("pick", 0, TA), ("pick", 2, TA)])
        self.assertEqual(trees(row(again(A), again(A)), "aa"), [
            ("row", (("again", (TA, TA)), ("again", ()))),
            ("row", (("again", (TA,)), ("again", (TA,)))),
            ("row", (("again", ()), ("again", (TA, TA))))])
        # The parts end at unlike places here, so that lesser and greater ends come by turns.
        ends = pick(row(A, A), A, row(A, A), A)
        self.assertEqual([tree[1][0][1] for tree in trees(row(ends, again(A)), "aaa")], [0, 1, 2, 3])

    def test_where_none_fits(self):
        for pattern, text in ((NONE, ""), (NONE, "a"), (A, ""), (A, "b"), (row(A, NONE), "a"), (again(A), "ab")):
            self.assertEqual(trees(pattern, text), [])

    def test_of_the_text_without_signs(self):
        self.assertEqual(trees(BLANK, ""), [("blank",)])
        self.assertEqual(trees(again(A), ""), [("again", ())])
        self.assertEqual(trees(pick(BLANK, A, BLANK), ""), [("pick", 0, ("blank",)), ("pick", 2, ("blank",))])

    def test_all_of_them(self):
        for pattern in PATTERNS + tuple(chance_patterns(51, 250, 4)):
            for text in texts_up_to("ab", 4):
                slow = sorted(slow_trees(pattern, text), key=slow_marks)
                if len(slow) <= 200:
                    self.assertEqual(trees(pattern, text), slow, (pattern, text))
                else:
                    with self.assertRaises(TooMany):
                        trees(pattern, text)

    def test_two_hundred_and_one_more(self):
        told = trees(TWO_HUNDRED, SIXTY)
        self.assertEqual(len(told), 200)
        self.assertEqual(told, sorted(slow_trees(TWO_HUNDRED, SIXTY), key=slow_marks))
        self.assertEqual(len(set(told)), 200)
        with self.assertRaises(TooMany):
            trees(ONE_MORE, SIXTY)
        with self.assertRaises(GroveError):
            trees(ONE_MORE, SIXTY)
        blanks = ("row", (("pick", (BLANK,) * 5), ("pick", (BLANK,) * 5), ("pick", (BLANK,) * 4), pick(BLANK, BLANK)))
        self.assertEqual(len(trees(blanks, "")), 200)
        with self.assertRaises(TooMany):
            trees(pick(blanks, BLANK), "")

    def test_very_many_are_refused(self):
        for pattern in VERY_MANY:
            with self.assertRaises(TooMany):
                trees(pattern, SIXTY)

    def test_told_lists_are_the_askers_own(self):
        told = trees(PAIR, "aaa")
        copy = list(told)
        told[0] = None
        told.append(5)
        self.assertEqual(trees(PAIR, "aaa"), copy)
        told.clear()
        self.assertEqual(trees(PAIR, "aaa"), copy)
        self.assertEqual(tree_at(PAIR, "aaa", 0), copy[0])
        empty = trees(A, "b")
        empty.append(1)
        self.assertEqual(trees(A, "b"), [])


class TreeAtAndNumberOf(unittest.TestCase):
    def refused(self, pattern, text, k):
        with self.assertRaises(NoTree):
            tree_at(pattern, text, k)

    def test_each_number(self):
        for pattern in PATTERNS + tuple(chance_patterns(52, 150, 3)):
            for text in texts_up_to("ab", 3):
                slow = sorted(slow_trees(pattern, text), key=slow_marks)
                for k, tree in enumerate(slow):
                    self.assertEqual(tree_at(pattern, text, k), tree)
                    self.assertEqual(number_of(pattern, tree), k)
                for k in (-1, -2, -HUGE, len(slow), len(slow) + 1, HUGE):
                    self.refused(pattern, text, k)

    def test_no_tree_of_texts_that_do_not_fit(self):
        for k in (-1, 0, 1, HUGE):
            self.refused(NONE, "", k)
            self.refused(A, "b", k)
            self.refused(again(A), "ab", k)

    def test_the_refusal_is_a_grove_error(self):
        with self.assertRaises(GroveError):
            tree_at(A, "a", 1)

    def test_sixty_signs_with_very_many_trees(self):
        for pattern in VERY_MANY:
            count = many(pattern, SIXTY)
            before = None
            for k in (0, 1, 2, 1000, count // 3, count // 2, count // 2 + 1, count - 2, count - 1):
                tree = tree_at(pattern, SIXTY, k)
                self.assertIs(is_tree(pattern, tree), True)
                self.assertEqual(text_of(tree), SIXTY)
                self.assertEqual(number_of(pattern, tree), k)
                if before is not None:
                    self.assertLess(slow_marks(before), slow_marks(tree))
                before = tree
            for k in (-1, -count, count, count + 1, HUGE, -HUGE):
                self.refused(pattern, SIXTY, k)

    def test_numbers_by_hand(self):
        pattern = again(pick(A, A))
        for k in (0, 1, 5, 2 ** 59, 2 ** 60 - 1):
            figures = [(k >> (59 - at)) & 1 for at in range(60)]
            tree = ("again", tuple(("pick", figure, TA) for figure in figures))
            self.assertEqual(tree_at(pattern, SIXTY, k), tree)
            self.assertEqual(number_of(pattern, tree), k)

    def test_neighbours_come_one_behind_the_other(self):
        for pattern in VERY_MANY:
            for start in (0, many(pattern, SIXTY) // 7):
                marks = [slow_marks(tree_at(pattern, SIXTY, start + k)) for k in range(12)]
                self.assertEqual(marks, sorted(set(marks)))

    def test_with_two_hundred_and_one_trees(self):
        self.assertEqual(number_of(ONE_MORE, tree_at(ONE_MORE, SIXTY, 200)), 200)
        self.assertEqual(tree_at(ONE_MORE, SIXTY, 200), ("pick", 5, ("again", (TA,) * 60)))
        self.refused(ONE_MORE, SIXTY, 201)
        for k in (0, 60, 61, 183, 198, 199):
            self.assertEqual(tree_at(ONE_MORE, SIXTY, k), tree_at(TWO_HUNDRED, SIXTY, k))
        self.assertEqual([tree_at(SIXTEEN, SIXTY, k) for k in range(16)], trees(SIXTEEN, SIXTY))

    def test_the_same_question_has_the_same_answer(self):
        once = [tree_at(PAIR, "aaaa", k) for k in range(5)]
        back = [tree_at(PAIR, "aaaa", k) for k in range(4, -1, -1)][::-1]
        self.assertEqual(once, back)
        self.assertEqual([number_of(PAIR, tree) for tree in once], [0, 1, 2, 3, 4])


if __name__ == "__main__":
    unittest.main()
