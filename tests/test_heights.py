"""7.2 and the rows ahead of 7.1: papers of cheap."""

import random
import unittest

from tastegrove.errors import TooMany
from tastegrove.heights import are_heights_of_tree, heights_of
from tastegrove.walks import walked
from tests.samples import (A, AB, B, BLANK, HUGE_ONES, OVERFULL, PATTERNS, SIXTY, again, changed_at_each,
                           chance_patterns, held, pick, price, row, slow_run, slow_trees, texts_up_to)
from tests.test_rests import Known
from tests.test_tastes import order, slow_price

HUGE = 10 ** 40
PRICED = (
    again(pick(price(3, A), price(5, row(A, A)), price(7, row(A, A, A)))),
    row(again(price(2, A)), pick(price(9, BLANK), price(1, again(A))), again(price(3, A))),
    pick(row(price(1, A), price(4, again(A))), row(price(4, A), price(1, again(A))), price(5, again(A))),
    row(pick(price(2, A), price(1, A)), pick(price(7, BLANK), price(3, BLANK), price(3, BLANK))),
    again(row(pick(price(0, A), A), again(price(1, pick(A, price(0, A)))))),
    price(5, again(price(6, held("x", pick(AB, price(1, row(A, price(2, B)))))))),
    row(pick(price(3, BLANK), price(3, A), BLANK), pick(A, price(1, A)), again(pick(price(2, AB), price(2, A)))),
)


def slow_least(known, place, behind):
    if behind is None:
        return [end[1] for end in known.ends[place]]
    return [step[2] + behind[step[0]] for step in known.steps[place] if step[0] in behind]


def slow_judge(known, text, pattern, tree, rows):
    for k, sign in enumerate(text):
        for place, signs in enumerate(known.signs):
            if sign in signs:
                for number in slow_least(known, place, rows[k + 1] if k < len(text) - 1 else None):
                    if place not in rows[k] or rows[k][place] > number:
                        return False
    left = whole = slow_price(tree)
    for k, (own, listed) in enumerate(known.lists_along(slow_run(pattern, tree))):
        for other in listed:
            comes_to = other[-1]
            if k < len(text):
                if other[0] not in rows[k]:
                    continue
                comes_to += rows[k][other[0]]
            if k == 0 and comes_to < whole:
                return False
            if other[-2] < own[-2] and comes_to <= left:
                return False
        left -= own[-1]
    return True


def judge(text, pattern, tree, rows):
    return are_heights_of_tree(pattern, text, tree, ("heights", rows))


# Each number, one at a time, a little more and less, far more and less, left out; and one for each place without one.
def changes_of(places):
    def changes(one):
        for place in range(places):
            numbers = (one[place] - 1, one[place] + 1, -HUGE, HUGE) if place in one else (-5, 0, 1, 2, 3, HUGE)
            for number in numbers:
                yield {**one, place: number}
            if place in one:
                yield {other: one[other] for other in one if other != place}
    return changes


class Papers(unittest.TestCase):
    def test_what_is_told(self):
        pattern = again(pick(price(3, A), price(5, row(A, A))))
        self.assertEqual(heights_of(pattern, ""), ("heights", []))
        self.assertEqual(heights_of(pattern, "a"), ("heights", [{0: 0, 2: 0}]))
        self.assertEqual(heights_of(pattern, "aa"), ("heights", [{0: 3, 1: 0, 2: 3}, {0: 0, 2: 0}]))
        self.assertEqual(heights_of(pattern, "ab"), ("heights", [{}, {}]))

    def test_of_told_trees(self):
        for pattern in PRICED + PATTERNS + tuple(chance_patterns(121, 200, 4)):
            for text in texts_up_to("ab", 4):
                paper = heights_of(pattern, text)
                self.assertEqual((type(paper), type(paper[1]), len(paper[1])), (tuple, list, len(text)))
                self.assertTrue(all(type(one) is dict for one in paper[1]))
                trees = slow_trees(pattern, text)
                best = min(trees, key=lambda one: order("cheap", one), default=None)
                for tree in trees[:8] + [tree for tree in (best,) if tree is not None]:
                    self.assertIs(are_heights_of_tree(pattern, text, tree, paper), tree == best)

    def test_many_signs(self):
        for pattern in PRICED:
            for text in (SIXTY, "a" * 200, "a" * 59 + "b", "a" * 59):
                tree = walked(pattern, "cheap", text)
                if tree is not None:
                    self.assertIs(are_heights_of_tree(pattern, text, tree, heights_of(pattern, text)), True)

    def test_too_many(self):
        for pattern in (OVERFULL,) + HUGE_ONES:
            for ask in (lambda: heights_of(pattern, ""),
                        lambda: are_heights_of_tree(pattern, "", ("blank",), ("heights", []))):
                with self.assertRaises(TooMany):
                    ask()


class Judge(unittest.TestCase):
    def test_ends_and_blanks(self):
        pattern = pick(price(2, BLANK), price(1, BLANK), price(1, BLANK))
        for k in range(3):
            cost = 2 if k == 0 else 1
            tree = ("pick", k, ("price", cost, BLANK))
            self.assertIs(are_heights_of_tree(pattern, "", tree, ("heights", [])), k == 1)
            tree = ("row", (("sign", "a"), tree))
            self.assertIs(are_heights_of_tree(row(A, pattern), "a", tree, ("heights", [{0: 1}])), k == 1)

    def test_heights_too_low_and_too_high(self):
        pattern = pick(price(4, A), price(3, A), price(3, A))
        tree = ("pick", 1, ("price", 3, ("sign", "a")))
        for heights, answer in (({0: 0, 1: 0, 2: 0}, True), ({0: -1, 1: 0, 2: 0}, False), ({0: 1, 1: 0, 2: 0}, False),
                                ({0: 0, 1: -1, 2: 0}, False), ({0: 0, 1: 0, 2: -1}, False), ({0: 0, 1: 0}, False),
                                ({0: 0, 1: 0, 2: 0, 3: -9, -1: -9, HUGE: 5}, True), ({}, False)):
            self.assertIs(judge("a", pattern, tree, [heights]), answer)
            self.assertIs(judge("a", pattern, tree, (heights,)), answer)

    def test_places_without_the_sign_count_like_others(self):
        pattern = pick(B, A)
        tree = ("pick", 1, ("sign", "a"))
        self.assertIs(judge("a", pattern, tree, [{1: 0}]), True)
        for height, answer in ((-1, False), (0, False), (1, True), (HUGE, True)):
            self.assertIs(judge("a", pattern, tree, [{0: height, 1: 0}]), answer)
        # What leads to such a place of the next dict is to have a number too.
        pattern = pick(row(A, B), row(A, A))
        tree = ("pick", 1, ("row", (("sign", "a"), ("sign", "a"))))
        self.assertIs(judge("aa", pattern, tree, [{2: 0}, {3: 0}]), True)
        self.assertIs(judge("aa", pattern, tree, [{2: 0}, {1: 5, 3: 0}]), False)
        self.assertIs(judge("aa", pattern, tree, [{0: 5, 2: 0}, {1: 5, 3: 0}]), True)
        self.assertIs(judge("aa", pattern, tree, [{0: 6, 2: 0}, {1: 5, 3: 0}]), False)
        self.assertIs(judge("aa", pattern, tree, [{0: 0, 2: 0}, {1: 5, 3: 0}]), False)

    def test_numbers_that_are_no_places_count_for_nothing(self):
        for pattern in PRICED:
            for text in ("a", "aa", "aab", "aaaa"):
                tree = walked(pattern, "cheap", text)
                if tree is not None:
                    rows = heights_of(pattern, text)[1]
                    junk = {-1: -5, -2: 0, len(Known(pattern).signs): -7, HUGE: -HUGE, -HUGE: HUGE}
                    self.assertIs(judge(text, pattern, tree, [{**junk, **one} for one in rows]), True)
                    self.assertIs(judge(text, pattern, tree, [junk for one in rows]), False)

    def test_by_the_letter_with_one_number_changed(self):
        answers = []
        for pattern in PRICED + PATTERNS + tuple(chance_patterns(122, 120, 3)):
            known = Known(pattern)
            for text in ("", "a", "aa", "ab", "aab", "aaaa"):
                trees = slow_trees(pattern, text)[:4]
                best = walked(pattern, "cheap", text)
                rows = heights_of(pattern, text)[1]
                for paper in [rows] + list(changed_at_each(rows, changes_of(len(known.signs)))):
                    for tree in trees + [best] * (best is not None):
                        answers.append(judge(text, pattern, tree, paper))
                        self.assertIs(answers[-1], slow_judge(known, text, pattern, tree, paper))
                        # Whatever is let by holds.
                        if answers[-1]:
                            self.assertEqual(tree, best)
        self.assertGreater(min(answers.count(True), answers.count(False)), 1000)

    # Changes that keep a paper shut are rare by chance alone: so all numbers are lowered and some put in.
    def test_by_the_letter_with_numbers_by_chance(self):
        source = random.Random(123)
        answers = []
        for pattern in PRICED + PATTERNS:
            known = Known(pattern)
            for text in ("a", "aa", "aab", "aaa"):
                best = walked(pattern, "cheap", text)
                for k in range(30):
                    rows = [{place: height - source.choice((0, 0, 0, 0, 0, 1)) for place, height in one.items()}
                            for one in heights_of(pattern, text)[1]]
                    for one in rows:
                        for place in range(len(known.signs)):
                            if source.random() < 0.1:
                                one.setdefault(place, source.randint(-1, 9))
                    for tree in slow_trees(pattern, text)[:3] + [best] * (best is not None):
                        answers.append(judge(text, pattern, tree, rows))
                        self.assertIs(answers[-1], slow_judge(known, text, pattern, tree, rows))
                        if answers[-1]:
                            self.assertEqual(tree, best)
        self.assertGreater(min(answers.count(True), answers.count(False)), 1000)

    def test_nothing_is_changed_or_kept(self):
        pattern, text = PRICED[0], "aaa"
        paper = heights_of(pattern, text)
        copy = ("heights", [dict(one) for one in paper[1]])
        are_heights_of_tree(pattern, text, walked(pattern, "cheap", text), paper)
        self.assertEqual(paper, copy)
        paper[1][0].clear()
        paper[1].append({})
        self.assertEqual(heights_of(pattern, text), copy)


if __name__ == "__main__":
    unittest.main()
