"""7.1 and the rows ahead of it: papers of first and shy, and papers of no tree."""

import random
import unittest

from tastegrove.errors import TooMany
from tastegrove.places import blanks, ends, places_of, starts, steps
from tastegrove.rests import are_rests_of_none, are_rests_of_tree, rests_of
from tastegrove.walks import walked
from tests.samples import (A, AB, B, BLANK, HUGE_ONES, NONE, OVERFULL, PATTERNS, SIXTY, again, changed_at_each,
                           chance_patterns, pick, price, row, slow_run, slow_trees, texts_up_to)
from tests.test_leans import DEEP
from tests.test_tastes import TASTES, order

HUGE = 10 ** 40


# Of a pattern all that the judge looks at, told once.
class Known:
    def __init__(self, pattern):
        self.signs = places_of(pattern)
        self.starts = starts(pattern)
        self.blanks = blanks(pattern)
        self.steps = [steps(pattern, place) for place in range(len(self.signs))]
        self.ends = [ends(pattern, place) for place in range(len(self.signs))]

    # By pairs: each start, step, end, blank of a run and the list that it stands in.
    def lists_along(self, run):
        lists = [self.starts] + [self.steps[step[0]] for step in run[0]]
        lists[-1] = self.ends[run[0][-1][0]] if run[0] else self.blanks
        return list(zip(run[0] + [run[1]], lists))


# For each mark of a tree whether it is one of an again.
def kinds_of_marks(tree):
    if tree[0] in ("row", "again"):
        kinds = []
        for inner in tree[1]:
            kinds += [True] * (tree[0] == "again") + kinds_of_marks(inner)
        return kinds + [True] * (tree[0] == "again")
    return [False] * (tree[0] == "pick") + (kinds_of_marks(tree[2]) if tree[0] in ("pick", "held", "price") else [])


def slow_is_shut(known, text, sets):
    for k, sign in enumerate(text):
        for place, signs in enumerate(known.signs):
            last = k == len(text) - 1
            leads = known.ends[place] if last else [step for step in known.steps[place] if step[0] in sets[k + 1]]
            if sign in signs and leads and place not in sets[k]:
                return False
    return True


def slow_judge(known, taste, text, pattern, tree, sets):
    if not slow_is_shut(known, text, sets):
        return False
    if tree is None:
        return not any(start[0] in sets[0] for start in known.starts) if text else not known.blanks
    kinds = kinds_of_marks(tree)
    for k, (own, listed) in enumerate(known.lists_along(slow_run(pattern, tree))):
        for other in listed:
            at = [one == another for one, another in zip(own[-2] + (-1,), other[-2] + (-2,))].index(False)
            if other == own or (other[-2][at] < own[-2][at]) == (taste == "shy" and kinds[at]):
                continue
            if k == len(text) or other[0] in sets[k]:
                return False
        kinds = kinds[len(own[-2]):]
    return True


def judge(taste, text, pattern, tree, sets):
    if tree is None:
        return are_rests_of_none(pattern, text, ("rests", sets))
    return are_rests_of_tree(pattern, taste, text, tree, ("rests", sets))


class Papers(unittest.TestCase):
    def test_what_is_told(self):
        pattern = row(again(A), again(AB))
        self.assertEqual(rests_of(pattern, ""), ("rests", []))
        self.assertEqual(rests_of(pattern, "ab"), ("rests", [(0, 1), (1,)]))
        self.assertEqual(rests_of(pattern, "ba"), ("rests", [(1,), (0, 1)]))
        self.assertEqual(rests_of(pattern, "ac"), ("rests", [(), ()]))
        self.assertEqual(rests_of(row(A, B), "ab"), ("rests", [(0,), (1,)]))
        self.assertEqual(rests_of(row(A, NONE), "a"), ("rests", [()]))

    def test_of_told_trees_and_of_no_tree(self):
        for pattern in PATTERNS + DEEP + tuple(chance_patterns(111, 200, 4)):
            for text in texts_up_to("ab", 4):
                paper = rests_of(pattern, text)
                self.assertEqual((type(paper), type(paper[1]), len(paper[1])), (tuple, list, len(text)))
                trees = slow_trees(pattern, text)
                self.assertIs(are_rests_of_none(pattern, text, paper), trees == [])
                for taste in ("first", "shy"):
                    best = min(trees, key=lambda one: order(taste, one), default=None)
                    for tree in trees[:6] + [tree for tree in (best,) if tree is not None]:
                        self.assertIs(are_rests_of_tree(pattern, taste, text, tree, paper), tree == best)

    def test_many_signs(self):
        for pattern in DEEP:
            for text in (SIXTY, "a" * 200, SIXTY + "c", "aab" * 20):
                paper = rests_of(pattern, text)
                for taste in ("first", "shy"):
                    tree = walked(pattern, taste, text)
                    self.assertIs(judge(taste, text, pattern, tree, paper[1]), True)

    def test_too_many(self):
        for pattern in (OVERFULL,) + HUGE_ONES:
            for ask in (lambda: rests_of(pattern, ""), lambda: are_rests_of_none(pattern, "", ("rests", [])),
                        lambda: are_rests_of_tree(pattern, "shy", "", ("blank",), ("rests", []))):
                with self.assertRaises(TooMany):
                    ask()


class Judge(unittest.TestCase):
    def test_ends_and_blanks(self):
        pattern = pick(BLANK, BLANK)
        for taste in ("first", "shy"):
            self.assertIs(are_rests_of_tree(pattern, taste, "", ("pick", 0, BLANK), ("rests", [])), True)
            self.assertIs(are_rests_of_tree(pattern, taste, "", ("pick", 1, BLANK), ("rests", [])), False)
            for k in (0, 1):
                tree = ("row", (("sign", "a"), ("pick", k, BLANK)))
                self.assertIs(are_rests_of_tree(row(A, pattern), taste, "a", tree, ("rests", [(0,)])), k == 0)
        self.assertIs(are_rests_of_none(pattern, "", ("rests", [])), False)
        self.assertIs(are_rests_of_none(A, "", ("rests", [])), True)
        self.assertIs(are_rests_of_none(NONE, "", ("rests", [])), True)

    def test_numbers_that_are_no_places_count_for_nothing(self):
        for pattern in DEEP + PATTERNS:
            for text in ("a", "aa", "aab", "aaaa"):
                for taste in ("first", "shy"):
                    tree = walked(pattern, taste, text)
                    sets = rests_of(pattern, text)[1]
                    junk = (-1, -2, len(places_of(pattern)), HUGE, -HUGE)
                    more = [junk + one + one + junk for one in sets]
                    self.assertIs(judge(taste, text, pattern, tree, more), True)
                    self.assertIs(judge(taste, text, pattern, tree, tuple(more)), True)
                    only = [junk for one in sets]
                    self.assertIs(judge(taste, text, pattern, tree, only), not any(sets))

    def test_places_without_the_sign_count_like_others(self):
        # The first part has not the sign: a set with its place says too little all the same.
        pattern = pick(B, A)
        tree = ("pick", 1, ("sign", "a"))
        self.assertIs(are_rests_of_tree(pattern, "first", "a", tree, ("rests", [(1,)])), True)
        self.assertIs(are_rests_of_tree(pattern, "first", "a", tree, ("rests", [(0, 1)])), False)
        self.assertIs(are_rests_of_none(pattern, "c", ("rests", [()])), True)
        self.assertIs(are_rests_of_none(pattern, "c", ("rests", [(0,)])), False)
        # What leads to such a place of the next set is to be in the set too.
        pattern = row(A, B)
        self.assertIs(are_rests_of_none(pattern, "aa", ("rests", [(), ()])), True)
        self.assertIs(are_rests_of_none(pattern, "aa", ("rests", [(), (1,)])), False)
        self.assertIs(are_rests_of_none(pattern, "aa", ("rests", [(0,), (1,)])), False)

    def test_by_the_letter_with_one_place_put_in_or_left_out(self):
        answers = []
        for pattern in DEEP + PATTERNS + tuple(chance_patterns(112, 80, 3)):
            known = Known(pattern)
            places = range(len(known.signs))
            for text in ("", "a", "aa", "ab", "aab", "aaaa"):
                trees = slow_trees(pattern, text)[:3] + [None]
                sets = rests_of(pattern, text)[1]
                papers = [sets] + list(changed_at_each(sets, lambda one: [
                    tuple(place for place in places if (place in one) != (place == other)) for other in places]))
                for taste in ("first", "shy"):
                    best = walked(pattern, taste, text)
                    for paper in papers:
                        for tree in trees + [best] * (best is not None):
                            answers.append(judge(taste, text, pattern, tree, paper))
                            self.assertIs(answers[-1], slow_judge(known, taste, text, pattern, tree, paper))
                            # Whatever is let by holds.
                            if answers[-1]:
                                self.assertEqual(tree, best)
        self.assertGreater(min(answers.count(True), answers.count(False)), 1000)

    def test_by_the_letter_with_sets_by_chance(self):
        source = random.Random(113)
        answers = []
        for pattern in DEEP + PATTERNS:
            known = Known(pattern)
            for text in ("a", "aa", "aab", "aaa"):
                for k in range(15):
                    many = source.random()
                    sets = [tuple(place for place in range(-1, len(known.signs) + 1) if source.random() < many)
                            for sign in text]
                    for taste in ("first", "shy"):
                        best = walked(pattern, taste, text)
                        for tree in slow_trees(pattern, text)[:2] + [None]:
                            answers.append(judge(taste, text, pattern, tree, sets))
                            self.assertIs(answers[-1], slow_judge(known, taste, text, pattern, tree, sets))
                            if answers[-1]:
                                self.assertEqual(tree, best)
        self.assertGreater(min(answers.count(True), answers.count(False)), 200)

    def test_of_no_tree_for_any_taste(self):
        for pattern in PATTERNS:
            for text in ("", "c", "ba", "abba"):
                for taste in TASTES:
                    paper = rests_of(pattern, text)
                    self.assertIs(are_rests_of_none(pattern, text, paper), walked(pattern, taste, text) is None)

    def test_nothing_is_changed_or_kept(self):
        pattern, text = again(pick(A, row(A, A))), "aaa"
        paper = rests_of(pattern, text)
        copy = ("rests", list(paper[1]))
        for taste in ("first", "shy"):
            are_rests_of_tree(pattern, taste, text, walked(pattern, taste, text), paper)
            are_rests_of_none(pattern, text, paper)
            self.assertEqual(paper, copy)
        paper[1].clear()
        self.assertEqual(rests_of(pattern, text), copy)


if __name__ == "__main__":
    unittest.main()
