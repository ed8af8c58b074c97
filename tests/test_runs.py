"""5.2, and 0.2 and 0.3 as far as they speak of it: runs of trees and trees of runs."""

import unittest

from tastegrove.counts import many
from tastegrove.errors import TooMany
from tastegrove.marks import marks_of
from tastegrove.numbers import tree_at
from tastegrove.places import blanks, ends, places_of, starts, steps
from tastegrove.runs import is_run, run_of, tree_of
from tests.samples import (A, AB, B, BLANK, FULL, FULL_BLANKS, HUGE_BUT_WITHOUT_TEXTS, HUGE_ONES, NONE, OVERFULL,
                           OVERFULL_BLANKS, PATTERNS, SIXTY, again, chance_patterns, held, pick, price, row, slow_marks,
                           slow_run, slow_trees, texts_up_to)

HUGE = 10 ** 40


# All runs of a text, put together of starts, steps, ends and blanks.
def all_runs(pattern, text):
    if text == "":
        return [([], blank) for blank in blanks(pattern)]
    signs = places_of(pattern)
    begun = [[start] for start in starts(pattern) if text[0] in signs[start[0]]]
    further = [steps(pattern, place) for place in range(len(signs))]
    for sign in text[1:]:
        begun = [run + [step] for run in begun for step in further[run[-1][0]] if sign in signs[step[0]]]
    return [(run, end) for run in begun for end in ends(pattern, run[-1][0])]


# The run with one of its numbers, steps, marks, prices, its end or a place changed, left out or put in.
def changed_runs(run, places):
    parts, end = run
    numbers = (-1, 0, 1, 2, HUGE, -HUGE)
    for k, (place, marks, cost) in enumerate(parts):
        others = [(other, marks, cost) for other in numbers + tuple(range(places + 1)) + (place - places,)]
        others += [(place, other, cost) for other in changed_marks(marks, numbers)]
        others += [(place, marks, cost + other) for other in (-1, 1, HUGE, -HUGE)]
        for other in others:
            yield (parts[:k] + [other] + parts[k + 1:], end)
        yield (parts[:k] + parts[k + 1:], end)
        yield (parts[:k] + [parts[k]] + parts[k:], end)
        yield (parts[:k], end)
        yield (parts[:k] + parts[k + 1:] + parts[k:k + 1], end)
    for other in changed_marks(end[0], numbers):
        yield (parts, (other, end[1]))
    for other in (-1, 1, HUGE, -HUGE):
        yield (parts, (end[0], end[1] + other))
    yield (parts + [(0, (), 0)], end)
    yield ([(0, (), 0)] + parts, end)


def changed_marks(marks, numbers):
    for k in range(len(marks) + 1):
        for number in numbers:
            yield marks[:k] + (number,) + marks[k:]
            yield marks[:k] + (number,) + marks[k + 1:]
        yield marks[:k] + marks[k + 1:]


class RunOf(unittest.TestCase):
    def test_each_kind(self):
        tree = ("sign", "a")
        table = ((BLANK, ("blank",), ([], ((), 0))), (A, tree, ([(0, (), 0)], ((), 0))),
                 (row(A, A), ("row", (tree, tree)), ([(0, (), 0), (1, (), 0)], ((), 0))),
                 (pick(A, A), ("pick", 1, tree), ([(1, (1,), 0)], ((), 0))),
                 (again(A), ("again", ()), ([], ((1,), 0))),
                 (again(A), ("again", (tree, tree)), ([(0, (0,), 0), (0, (0,), 0)], ((1,), 0))),
                 (held("x", A), ("held", "x", tree), ([(0, (), 0)], ((), 0))),
                 (price(4, A), ("price", 4, tree), ([(0, (), 4)], ((), 0))),
                 (price(4, BLANK), ("price", 4, ("blank",)), ([], ((), 4))),
                 (row(A, price(4, pick(BLANK, A))), ("row", (tree, ("price", 4, ("pick", 0, ("blank",))))),
                  ([(0, (), 0)], ((0,), 4))),
                 (row(pick(A, B), again(price(2, pick(B, A)))),
                  ("row", (("pick", 0, tree), ("again", (("price", 2, ("pick", 1, tree)),)))),
                  ([(0, (0,), 0), (3, (0, 1), 2)], ((1,), 0))))
        for pattern, whole, run in table:
            self.assertEqual(run_of(pattern, whole), run)

    def test_kinds(self):
        for pattern in PATTERNS:
            for tree in slow_trees(pattern, "ab")[:2] + slow_trees(pattern, "")[:2]:
                run = run_of(pattern, tree)
                self.assertEqual([type(part) for part in run], [list, tuple])
                self.assertIs(type(run), tuple)
                for step in run[0]:
                    self.assertEqual([type(step)] + [type(part) for part in step], [tuple, int, tuple, int])
                self.assertEqual([type(part) for part in run[1]], [tuple, int])

    def test_of_all_trees(self):
        for pattern in PATTERNS + tuple(chance_patterns(81, 200, 4)):
            for text in texts_up_to("ab", 4):
                for tree in slow_trees(pattern, text)[:20]:
                    run = run_of(pattern, tree)
                    self.assertEqual(run, slow_run(pattern, tree))
                    self.assertEqual(tree_of(pattern, text, run), tree)
                    self.assertIs(is_run(pattern, text, run), True)

    def test_marks_one_behind_the_other(self):
        for pattern in PATTERNS:
            for text in texts_up_to("ab", 4):
                for tree in slow_trees(pattern, text)[:10]:
                    parts, end = run_of(pattern, tree)
                    marks = tuple(mark for step in parts for mark in step[1]) + end[0]
                    self.assertEqual(marks, slow_marks(tree))
                    self.assertEqual(marks, marks_of(tree))

    def test_as_many_runs_as_trees(self):
        for pattern in PATTERNS + tuple(chance_patterns(82, 200, 3)):
            for text in texts_up_to("ab", 4):
                runs = all_runs(pattern, text)
                trees = slow_trees(pattern, text)
                self.assertEqual(len(runs), len(trees))
                self.assertEqual(len(runs), many(pattern, text))
                for run in runs[:10]:
                    self.assertIs(is_run(pattern, text, run), True)
                    self.assertIn(tree_of(pattern, text, run), trees)
                for tree in trees[:10]:
                    self.assertIn(run_of(pattern, tree), runs)

    def test_sixty_signs_and_more(self):
        pattern = again(pick(A, row(A, A)))
        for k in (0, 10 ** 9, many(pattern, SIXTY) - 1):
            tree = tree_at(pattern, SIXTY, k)
            run = run_of(pattern, tree)
            self.assertEqual(len(run[0]), 60)
            self.assertEqual(tree_of(pattern, SIXTY, run), tree)
            self.assertIs(is_run(pattern, SIXTY, run), True)
            self.assertIs(is_run(pattern, SIXTY[1:], run), False)
            self.assertIs(is_run(pattern, SIXTY + "a", run), False)
        tree = ("again", (("pick", 1, ("row", (("sign", "a"), ("sign", "a")))),) * 100)
        run = run_of(pattern, tree)
        self.assertEqual(tree_of(pattern, "a" * 200, run), tree)
        self.assertIs(is_run(pattern, "a" * 200, run), True)


class IsRun(unittest.TestCase):
    def test_of_the_text_without_signs(self):
        pattern = pick(A, price(3, BLANK), again(A))
        self.assertIs(is_run(pattern, "", ([], ((1,), 3))), True)
        self.assertIs(is_run(pattern, "", ([], ((2, 1), 0))), True)
        for end in (((1,), 0), ((1,), -3), ((0,), 0), ((2,), 0), ((2, 1), 3), ((), 0), ((2, 0, 1), 0), ((-1,), 0)):
            self.assertIs(is_run(pattern, "", ([], end)), False)
        self.assertIs(is_run(pattern, "a", ([], ((1,), 3))), False)
        self.assertIs(is_run(pattern, "", ([(0, (0,), 0)], ((), 0))), False)
        self.assertIs(is_run(NONE, "", ([], ((), 0))), False)
        self.assertIs(is_run(A, "", ([], ((), 0))), False)

    def test_a_sign_that_its_place_has_not(self):
        pattern = row(pick(A, AB), B)
        run = ([(1, (1,), 0), (2, (), 0)], ((), 0))
        for text in ("ab", "bb"):
            self.assertIs(is_run(pattern, text, run), True)
        for text in ("aa", "cb", "b", "ba", "abb", "bab", " b", "b ", "", "ab ", "AB"):
            self.assertIs(is_run(pattern, text, run), False)
        run = ([(0, (0,), 0), (2, (), 0)], ((), 0))
        self.assertIs(is_run(pattern, "ab", run), True)
        self.assertIs(is_run(pattern, "bb", run), False)

    def test_places_counted_from_behind_are_none(self):
        self.assertIs(is_run(again(A), "a", ([(0, (0,), 0)], ((1,), 0))), True)
        for place in (-1, -2, 1, 2, HUGE, -HUGE):
            self.assertIs(is_run(again(A), "a", ([(place, (0,), 0)], ((1,), 0))), False)
            self.assertIs(is_run(again(A), "aa", ([(0, (0,), 0), (place, (0,), 0)], ((1,), 0))), False)

    def test_one_thing_changed(self):
        answers = []
        for pattern in PATTERNS + tuple(chance_patterns(83, 60, 3)):
            for text in ("", "a", "ab", "aab"):
                runs = all_runs(pattern, text)
                for run in runs[:4]:
                    for changed in changed_runs(run, len(places_of(pattern))):
                        answers.append(is_run(pattern, text, changed))
                        self.assertIs(answers[-1], changed in runs, (pattern, text, changed))
        self.assertGreater(answers.count(True), 100)
        self.assertGreater(answers.count(False), 5000)

    def test_another_text(self):
        for pattern in PATTERNS:
            known = {text: all_runs(pattern, text) for text in texts_up_to("ab", 3)}
            for text in texts_up_to("ab", 3):
                for other in texts_up_to("ab", 3):
                    for run in known[other][:3]:
                        self.assertIs(is_run(pattern, text, run), run in known[text])


class TooManyAndOwn(unittest.TestCase):
    def test_too_many(self):
        tree = ("pick", 1, ("pick", 0, ("blank",)))
        run = ([], ((1, 0), 0))
        self.assertEqual(run_of(FULL, tree), run)
        self.assertEqual(tree_of(FULL, "", run), tree)
        self.assertIs(is_run(FULL, "", run), True)
        for ask in (lambda: run_of(OVERFULL, tree), lambda: tree_of(OVERFULL, "", run),
                    lambda: is_run(OVERFULL, "", run), lambda: is_run(OVERFULL, "a", run),
                    lambda: run_of(OVERFULL_BLANKS, ("pick", 1, ("blank",))),
                    lambda: tree_of(OVERFULL_BLANKS, "", ([], ((1,), 0))),
                    lambda: is_run(OVERFULL_BLANKS, "", ([], ((1,), 0)))):
            with self.assertRaises(TooMany):
                ask()
        for pattern in HUGE_ONES:
            with self.assertRaises(TooMany):
                is_run(pattern, "", ([], ((), 0)))
        self.assertIs(is_run(FULL_BLANKS, "", ([], ((4, 4, 3, 2), 0))), True)
        self.assertIs(is_run(FULL_BLANKS, "", ([], ((4, 4, 3, 3), 0))), False)
        self.assertEqual(run_of(HUGE_BUT_WITHOUT_TEXTS, ("pick", 1, ("sign", "a"))), ([(0, (1,), 0)], ((), 0)))

    def test_what_is_told_is_changed_and_asked_for_again(self):
        pattern, tree = again(pick(A, price(3, A))), ("again", (("pick", 1, ("price", 3, ("sign", "a"))),))
        for change in (lambda run: run[0].clear(), lambda run: run[0].append(None), lambda run: run[0].reverse()):
            change(run_of(pattern, tree))
            self.assertEqual(run_of(pattern, tree), ([(1, (0, 1), 3)], ((1,), 0)))

    def test_nothing_handed_in_is_changed(self):
        pattern = again(pick(A, row(A, A)))
        for tree in slow_trees(pattern, "aaa"):
            run = run_of(pattern, tree)
            copy = (list(run[0]), run[1])
            tree_of(pattern, "aaa", run)
            is_run(pattern, "aaa", run)
            is_run(pattern, "aa", run)
            self.assertEqual(run, copy)


if __name__ == "__main__":
    unittest.main()
