"""7.1 to 7.3, the rows ahead of 7.1 and 0.4: the paper that is told with a told tree, and which papers are let by."""

import copy
import functools
import random
import unittest

from tastegrove.errors import NoTaste, TooMany
from tastegrove.papers import lets, paper_of
from tastegrove.patterns import makes_of
from tastegrove.walks import walked
from tests import test_heights, test_rests, test_spans
from tests.samples import (A, AB, B, BLANK, FULL, HUGE_ONES, NONE, OVERFULL, PATTERNS, SIXTY, again, changed_at_each,
                           chance_patterns, pick, price, row, sign_makes, slow_trees, texts_up_to)
from tests.test_heights import PRICED
from tests.test_leans import DEEP
from tests.test_tastes import NO_TASTES, TASTES, order

HUGE = 10 ** 40
KINDS = {"first": "rests", "shy": "rests", "long": "spans", "short": "spans", "cheap": "heights"}


known_of = functools.lru_cache(maxsize=1)(test_rests.Known)


# By the letter of 7.1 to 7.3.
def slow_lets(pattern, taste, text, tree, paper):
    if tree is None or taste in ("first", "shy"):
        return test_rests.slow_judge(known_of(pattern), taste, text, pattern, tree, paper[1])
    if taste == "cheap":
        return test_heights.slow_judge(known_of(pattern), text, pattern, tree, paper[1])
    return test_spans.slow_judge(pattern, taste, text, tree, paper[1])


# Each paper with one thing left out, put in or put otherwise.
def changed(pattern, text, paper):
    places = range(-1, sign_makes(pattern) + 1)
    kind, rows = paper
    if kind == "rests":
        changes = changed_at_each(rows, lambda one: [
            tuple(place for place in places if (place in one) != (place == other)) for other in places])
    elif kind == "heights":
        changes = changed_at_each(rows, test_heights.changes_of(sign_makes(pattern)))
    else:
        whole = test_spans.all_triples(pattern, text)
        changes = [[other for other in whole if (other in rows) != (other == one)] for one in whole]
    return [(kind, list(one)) for one in changes]


class PaperOf(unittest.TestCase):
    def check_form(self, pattern, text, paper, kind):
        self.assertEqual((type(paper), len(paper), paper[0], type(paper[1])), (tuple, 2, kind, list))
        if kind == "spans":
            for n, i, j in paper[1]:
                self.assertTrue(0 <= n < len(makes_of(pattern)) and 0 <= i <= j <= len(text))
            return
        self.assertEqual([type(one) for one in paper[1]], [tuple if kind == "rests" else dict] * len(text))
        for one in paper[1]:
            self.assertTrue(all(0 <= place < sign_makes(pattern) for place in one))

    def test_the_told_tree_and_a_paper_that_is_let_by(self):
        fitting = []
        for pattern in PATTERNS + DEEP + PRICED + tuple(chance_patterns(141, 150, 4)):
            for text in texts_up_to("ab", 3) + ["aaaa", "abab", "c", "aca"]:
                trees = slow_trees(pattern, text)
                for taste in TASTES:
                    pair = paper_of(pattern, taste, text)
                    self.assertIs(type(pair), tuple)
                    tree, paper = pair
                    self.assertEqual(tree, min(trees, key=lambda one: order(taste, one), default=None))
                    self.check_form(pattern, text, paper, "rests" if tree is None else KINDS[taste])
                    self.assertIs(lets(pattern, taste, text, tree, paper), True)
                    # No paper is one of a tree that another one is ahead of.
                    for other in trees[:5]:
                        if other != tree:
                            self.assertIs(lets(pattern, taste, text, other, paper), False)
                    if trees:
                        self.assertIs(lets(pattern, taste, text, None, paper_of(NONE, taste, text)[1]), False)
                    fitting.append(bool(trees))
        self.assertGreater(min(fitting.count(True), fitting.count(False)), 1000)

    def test_of_the_text_without_signs(self):
        for taste in TASTES:
            self.assertEqual(paper_of(A, taste, ""), (None, ("rests", [])))
            tree, paper = paper_of(pick(BLANK, price(2, BLANK)), taste, "")
            self.assertEqual((tree, paper[0]), (("pick", 0, BLANK), KINDS[taste]))
            self.assertIs(lets(pick(BLANK, BLANK), taste, "", tree, paper), True)
            self.assertIs(lets(pick(BLANK, BLANK), taste, "", ("pick", 1, BLANK), paper), False)
            self.assertIs(lets(BLANK, taste, "", None, ("rests", [])), False)
            self.assertIs(lets(A, taste, "", None, ("rests", [])), True)

    def test_of_long_texts_with_very_many_trees(self):
        for pattern in (row(again(pick(A, row(A, A))), again(A)), again(pick(price(1, A), price(3, row(A, A)), A)), FULL):
            for text in (SIXTY, SIXTY[1:] + "b", SIXTY[1:] + "c"):
                for taste in TASTES:
                    tree, paper = paper_of(pattern, taste, text)
                    self.assertEqual(tree, walked(pattern, taste, text))
                    self.assertIs(lets(pattern, taste, text, tree, paper), True)


class Lets(unittest.TestCase):
    def test_by_the_letter_with_one_thing_changed(self):
        answers = {taste: [] for taste in TASTES}
        source = random.Random(142)
        for pattern in PRICED + DEEP + PATTERNS + tuple(chance_patterns(143, 60, 3)):
            if sign_makes(pattern) > 8:
                continue
            for text in ("", "a", "aa", "ab", "aab"):
                trees = slow_trees(pattern, text)[:2]
                for taste in TASTES:
                    best, paper = paper_of(pattern, taste, text)
                    papers = changed(pattern, text, paper)
                    for other in [paper] + source.sample(papers, min(len(papers), 8)):
                        for tree in trees if trees else [None]:
                            answer = lets(pattern, taste, text, tree, other)
                            self.assertIs(answer, slow_lets(pattern, taste, text, tree, other))
                            answers[taste].append(answer)
                            # Whatever is let by holds.
                            if answer:
                                self.assertEqual(tree, best)
        for taste in TASTES:
            self.assertGreater(min(answers[taste].count(True), answers[taste].count(False)), 400)

    def test_of_none_where_the_text_fits(self):
        for pattern in PATTERNS:
            for text in ("", "a", "ab", "aa"):
                best = walked(pattern, "first", text)
                for sets in ([()] * len(text), [tuple(range(9))] * len(text), [(0,)] * len(text), [(1,)] * len(text)):
                    for taste in TASTES:
                        answer = lets(pattern, taste, text, None, ("rests", sets))
                        self.assertIs(answer, slow_lets(pattern, taste, text, None, ("rests", sets)))
                        self.assertFalse(answer and best is not None)

    def test_other_numbers_count_for_nothing(self):
        text = "aab"
        for pattern in PATTERNS + DEEP:
            places, makes = sign_makes(pattern), len(makes_of(pattern))
            for taste in TASTES:
                tree, (kind, rows) = paper_of(pattern, taste, text)
                if kind == "rests":
                    rows = [(-1, -HUGE) + one + (places, HUGE) for one in rows]
                elif kind == "heights":
                    rows = [{-1: -HUGE, places: 0, HUGE: 5, -HUGE: -1, **one} for one in rows]
                else:
                    rows = rows + [(-1, 0, 1), (makes, 0, 1), (HUGE, 0, 1), (0, -1, 1), (0, 0, 4), (0, 3, 2), (0, 2, -HUGE),
                                   (makes - 1, -2, -1), (0, HUGE, HUGE), (-HUGE, 0, 3), (1, 2, HUGE)]
                self.assertIs(lets(pattern, taste, text, tree, (kind, rows)), True)
                # Nor do they stand for what is left out.
                if kind == "spans":
                    self.assertIs(lets(pattern, taste, text, tree, (kind, rows[-11:])), False)

    def test_tuples_for_lists(self):
        for pattern in PATTERNS + DEEP:
            for text in ("", "aab", "ba"):
                for taste in TASTES:
                    tree, (kind, rows) = paper_of(pattern, taste, text)
                    self.assertIs(lets(pattern, taste, text, tree, (kind, tuple(rows))), True)
                    for other in slow_trees(pattern, text)[:3]:
                        if tree is not None:
                            self.assertIs(lets(pattern, taste, text, other, (kind, tuple(rows))), other == tree)


class Refusals(unittest.TestCase):
    def test_no_taste_ahead_of_all_else(self):
        for pattern in (A, OVERFULL, HUGE_ONES[0]):
            for thing in NO_TASTES:
                with self.assertRaises(NoTaste):
                    paper_of(pattern, thing, "a")
                for tree in (("sign", "a"), None):
                    with self.assertRaises(NoTaste):
                        lets(pattern, thing, "a", tree, ("rests", [(0,)]))

    def test_too_many(self):
        for pattern in (OVERFULL,) + HUGE_ONES:
            for taste in TASTES:
                with self.assertRaises(TooMany):
                    paper_of(pattern, taste, "")
                with self.assertRaises(TooMany):
                    paper_of(pattern, taste, "ccc")
                with self.assertRaises(TooMany):
                    lets(pattern, taste, "c", None, ("rests", [()]))
        tree = ("pick", 1, ("pick", 0, BLANK))
        for taste in TASTES:
            with self.assertRaises(TooMany):
                lets(OVERFULL, taste, "", tree, (KINDS[taste], []))
            self.assertIs(type(lets(FULL, taste, "", tree, (KINDS[taste], []))), bool)


class Own(unittest.TestCase):
    def test_what_is_told_is_changed_and_asked_for_again(self):
        pattern, text = again(pick(price(1, A), row(A, AB))), "aab"
        for taste in TASTES:
            for asked in (text, "bb", ""):
                answer = paper_of(pattern, taste, asked)
                kept = copy.deepcopy(answer)
                for one in answer[1][1]:
                    if isinstance(one, dict):
                        one.clear()
                answer[1][1].append(7)
                self.assertEqual(paper_of(pattern, taste, asked), kept)

    def test_nothing_handed_in_is_changed(self):
        pattern, text = row(again(A), again(pick(A, B))), "aab"
        for taste in TASTES:
            tree, paper = paper_of(pattern, taste, text)
            kept = copy.deepcopy(paper)
            lets(pattern, taste, text, tree, paper)
            self.assertEqual(paper, kept)


if __name__ == "__main__":
    unittest.main()
