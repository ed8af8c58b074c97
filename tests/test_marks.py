"""2.3: marks of trees, and the tree that marks and a text make."""

import unittest

from tastegrove.errors import GroveError, NoTree
from tastegrove.marks import marks_of, tree_by
from tests.samples import (A, AB, B, BLANK, NONE, PATTERNS, SIXTY, again, chance_patterns, held, pick, price, row,
                           slow_marks, slow_trees, texts_up_to)

TA = ("sign", "a")
TB = ("sign", "b")
TBLANK = ("blank",)
HUGE = 10 ** 40


class MarksOf(unittest.TestCase):
    def test_each_kind(self):
        table = ((TBLANK, ()), (TA, ()), (("row", (TA, TB)), ()), (("held", "x", TA), ()), (("price", 5, TA), ()),
                 (("pick", 0, TA), (0,)), (("pick", 5, TA), (5,)), (("again", ()), (1,)), (("again", (TA,)), (0, 1)),
                 (("again", (TA, TA, TA)), (0, 0, 0, 1)), (("pick", 2, ("pick", 3, TA)), (2, 3)),
                 (("row", (("pick", 1, TA), TB, ("pick", 0, TA))), (1, 0)),
                 (("row", (("again", (TA,)), ("again", ()))), (0, 1, 1)),
                 (("again", (("pick", 4, TA), ("pick", 3, TB))), (0, 4, 0, 3, 1)),
                 (("again", (("row", (TA, ("again", (TB,)))), ("row", (TA, ("again", ()))))), (0, 0, 1, 0, 1, 1)),
                 (("held", "x", ("price", 7, ("pick", 2, ("again", (TA,))))), (2, 0, 1)),
                 (("pick", 1, ("again", (("pick", 0, TA),))), (1, 0, 0, 1)))
        for tree, marks in table:
            self.assertEqual(marks_of(tree), marks)
            self.assertIs(type(marks_of(tree)), tuple)

    def test_all_trees(self):
        for pattern in PATTERNS + tuple(chance_patterns(31, 150, 4)):
            for text in texts_up_to("ab", 3):
                for tree in slow_trees(pattern, text)[:40]:
                    self.assertEqual(marks_of(tree), slow_marks(tree))

    def test_trees_of_many_signs_and_makes(self):
        self.assertEqual(marks_of(("again", (("pick", 2, TA),) * 500)), (0, 2) * 500 + (1,))
        six = ("row", (("pick", 1, TA), TB, ("again", (TA,)), TB, TA, ("pick", 3, TB)))
        self.assertEqual(marks_of(("row", (("row", (six,) * 6),) * 6)), (1, 0, 1, 3) * 36)
        tree = TA
        for k in range(400):
            tree = ("pick", k, tree)
        self.assertEqual(marks_of(tree), tuple(range(399, -1, -1)))


class TreeBy(unittest.TestCase):
    def refused(self, pattern, marks, text):
        with self.assertRaises(NoTree):
            tree_by(pattern, marks, text)

    def test_each_kind(self):
        table = ((BLANK, (), "", TBLANK), (A, (), "a", TA), (AB, (), "b", TB), (row(A, B), (), "ab", ("row", (TA, TB))),
                 (pick(A, B, A), (2,), "a", ("pick", 2, TA)), (pick(A, B, A), (1,), "b", ("pick", 1, TB)),
                 (again(A), (1,), "", ("again", ())), (again(A), (0, 0, 1), "aa", ("again", (TA, TA))),
                 (held("x", A), (), "a", ("held", "x", TA)), (price(5, A), (), "a", ("price", 5, TA)),
                 (again(NONE), (1,), "", ("again", ())), (pick(NONE, A), (1,), "a", ("pick", 1, TA)),
                 (again(row(A, again(B))), (0, 0, 1, 0, 1, 1), "aba",
                  ("again", (("row", (TA, ("again", (TB,)))), ("row", (TA, ("again", ())))))))
        for pattern, marks, text, tree in table:
            self.assertEqual(tree_by(pattern, marks, text), tree)

    def test_refused(self):
        table = ((NONE, (), ""), (NONE, (), "a"), (NONE, (0,), ""), (BLANK, (), "a"), (BLANK, (0,), ""), (A, (), ""),
                 (A, (), "b"), (A, (), "aa"), (A, (0,), "a"), (row(A, B), (), "a"), (row(A, B), (), "ba"),
                 (row(A, B), (), "aba"), (row(A, B), (), ""), (pick(A, B), (), "a"), (pick(A, B), (0,), "b"),
                 (pick(A, B), (1,), "a"), (pick(A, B), (0, 0), "a"), (pick(A, NONE), (1,), "a"), (again(A), (), ""),
                 (again(A), (0,), "a"), (again(A), (0, 0), "aa"), (again(A), (1,), "a"), (again(A), (0, 1), ""),
                 (again(A), (0, 1), "b"), (again(A), (0, 1, 1), "a"), (again(A), (1, 0), ""), (again(A), (1, 0, 1), "a"),
                 (again(NONE), (0, 1), ""), (held("x", NONE), (), ""), (price(1, NONE), (), ""), (held("x", A), (), "b"),
                 (row(A, NONE), (), "a"), (price(2, A), (2,), "a"), (again(A), (0,) * 100, SIXTY))
        for pattern, marks, text in table:
            self.refused(pattern, marks, text)

    def test_marks_of_any_numbers(self):
        for mark in (-1, -2, -3, -HUGE, 3, 4, 100, HUGE):
            self.refused(pick(A, A, A), (mark,), "a")
        for mark in (-1, -2, 2, 3, HUGE, -HUGE):
            self.refused(again(A), (mark,), "")
            self.refused(again(A), (0, mark), "a")
            self.refused(again(A), (mark, 1), "a")
            self.refused(row(A, A), (mark,), "aa")
            self.refused(row(again(A), pick(A, B)), (0, 1, mark), "aa")

    def test_the_refusal_is_a_grove_error(self):
        with self.assertRaises(GroveError):
            tree_by(A, (), "")
        with self.assertRaises(ValueError):
            tree_by(A, (), "")

    def test_of_all_trees(self):
        for pattern in PATTERNS + tuple(chance_patterns(32, 150, 4)):
            for text in texts_up_to("ab", 3):
                for tree in slow_trees(pattern, text)[:40]:
                    self.assertEqual(tree_by(pattern, slow_marks(tree), text), tree)

    # What is told for marks and a text that were changed at one place is the one tree that has them, or a refusal.
    def test_one_mark_or_sign_changed(self):
        answers = []
        for pattern in PATTERNS + tuple(chance_patterns(33, 60, 3)):
            known = {}
            for text in texts_up_to("ab", 3):
                for marks in list(trees_by_marks(pattern, text, known))[:6]:
                    pairs = [(other, text) for other in changed_rows(marks, [(mark,) for mark in (-1, 0, 1, 2, HUGE)])]
                    pairs += [(marks, other) for other in changed_rows(text, ("a", "b", "c"))]
                    for other_marks, other_text in pairs:
                        tree = trees_by_marks(pattern, other_text, known).get(other_marks)
                        answers.append(tree)
                        if tree is None:
                            self.refused(pattern, other_marks, other_text)
                        else:
                            self.assertEqual(tree_by(pattern, other_marks, other_text), tree)
        self.assertGreater(answers.count(None), 1000)
        self.assertGreater(len(answers) - answers.count(None), 1000)

    def test_sixty_signs_and_more(self):
        pattern = again(pick(A, row(A, A)))
        self.assertEqual(tree_by(pattern, (0, 1) * 30 + (1,), SIXTY),
                         ("again", (("pick", 1, ("row", (TA, TA))),) * 30))
        self.assertEqual(tree_by(again(A), (0,) * 400 + (1,), "a" * 400), ("again", (TA,) * 400))

    def test_the_same_question_has_the_same_answer(self):
        pattern = row(again(A), again(A))
        for k in range(3):
            self.assertEqual(tree_by(pattern, (0, 1, 0, 1), "aa"), ("row", (("again", (TA,)), ("again", (TA,)))))
            self.refused(pattern, (0, 1, 0), "aa")


def trees_by_marks(pattern, text, known):
    if text not in known:
        known[text] = {slow_marks(tree): tree for tree in slow_trees(pattern, text)}
    return known[text]


# A row with one of its members taken out, put in or exchanged.
def changed_rows(whole, members):
    for k in range(len(whole) + 1):
        for member in members:
            yield whole[:k] + member + whole[k:]
            if k < len(whole):
                yield whole[:k] + member + whole[k + 1:]
        if k < len(whole):
            yield whole[:k] + whole[k + 1:]


if __name__ == "__main__":
    unittest.main()
