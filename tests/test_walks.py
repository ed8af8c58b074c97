"""6.1, 6.2 and 0.4: the walk keeps, for each place, the beginning ahead of all others, and tells what is told."""

import itertools
import unittest

from tastegrove.errors import NoTaste, TooMany
from tastegrove.places import ends, places_of, starts, steps
from tastegrove.runs import tree_of
from tastegrove.tastes import told
from tastegrove.trees import is_tree, text_of
from tastegrove.walks import Walk, walked
from tests.samples import (A, AB, B, BLANK, FULL, FULL_BLANKS, HUGE_ONES, NONE, ONE_MORE, OVERFULL, OVERFULL_BLANKS,
                           PATTERNS, SIGNS, SIXTY, again, chance_patterns, held, pick, price, row, slow_trees, texts_up_to)
from tests.test_leans import DEEP
from tests.test_tastes import NO_TASTES, TASTES, order

TA = ("sign", "a")
TWO_SIGNS = ("row", (TA, TA))


def taken(pattern, taste, text):
    walk = Walk(pattern, taste)
    for sign in text:
        walk.take(sign)
    return walk


# All beginnings of a text, by the places that they come to.
def beginnings(pattern, text):
    signs = places_of(pattern)
    further = [steps(pattern, place) for place in range(len(signs))]
    begun = [[start] for start in starts(pattern) if text[0] in signs[start[0]]]
    for sign in text[1:]:
        begun = [run + [step] for run in begun for step in further[run[-1][0]] if sign in signs[step[0]]]
    found = {}
    for run in begun:
        found.setdefault(run[-1][0], []).append(run)
    return found


# Some ways to go on from a place to an end: pairs of further steps and an end, the texts of which are told too.
def followings(pattern, place, most):
    signs = places_of(pattern)
    waiting, found = [([], place)], []
    while waiting and len(found) < most:
        run, at = waiting.pop(0)
        text = "".join(signs[step[0]][-1] for step in run)
        found.extend((run, end, text) for end in ends(pattern, at))
        waiting.extend((run + [step], step[0]) for step in steps(pattern, at))
    return found[:most]


class Walked(unittest.TestCase):
    def test_what_told_tells(self):
        for pattern in PATTERNS + DEEP + tuple(chance_patterns(101, 300, 4)):
            for text in texts_up_to("ab", 4):
                trees = slow_trees(pattern, text)
                for taste in TASTES:
                    tree = walked(pattern, taste, text)
                    self.assertEqual(tree, min(trees, key=lambda one: order(taste, one), default=None))
                    if len(trees) <= 200:
                        self.assertEqual(tree, told(pattern, taste, text))

    def test_longer_texts(self):
        for pattern in DEEP:
            for text in ("aaaaaa", "aaabaa", "aababab"):
                trees = slow_trees(pattern, text)
                orders = {taste: [order(taste, tree) for tree in trees] for taste in TASTES}
                for taste in TASTES:
                    tree = trees[orders[taste].index(min(orders[taste]))] if trees else None
                    self.assertEqual(walked(pattern, taste, text), tree)

    def test_by_each_taste(self):
        pattern = row(pick(price(3, A), price(2, row(A, A)), price(1, A)), again(A))
        for taste, k in (("first", 0), ("shy", 0), ("long", 1), ("short", 0), ("cheap", 2)):
            self.assertEqual(walked(pattern, taste, "aa")[1][0][1], k)
        pattern = row(again(A), again(A))
        most, least = (("again", (TA, TA)), ("again", ())), (("again", ()), ("again", (TA, TA)))
        for taste, trees in (("first", most), ("shy", least), ("long", most), ("short", least), ("cheap", most)):
            self.assertEqual(walked(pattern, taste, "aa"), ("row", trees))

    def test_prices_of_the_whole(self):
        # The dearer beginning has the cheaper end; prices of blanks count too.
        pattern = pick(row(price(5, A), B), row(A, price(6, B)), row(price(1, A), B, price(3, BLANK)))
        self.assertEqual(walked(pattern, "cheap", "ab")[1], 2)
        pattern = row(pick(price(2, A), price(1, A)), pick(price(7, BLANK), price(3, BLANK), price(3, BLANK)))
        self.assertEqual(walked(pattern, "cheap", "a")[1][0][1], 1)
        self.assertEqual(walked(pattern, "cheap", "a")[1][1][1], 1)
        self.assertEqual(walked(pick(price(2, BLANK), price(1, BLANK), price(1, BLANK)), "cheap", "")[1], 1)
        # Of one price by first over the whole.
        one, other = pick(price(1, A), price(4, A)), pick(price(4, A), price(1, A))
        pattern = pick(row(one, pick(NONE, price(4, B))), row(pick(NONE, price(4, A)), pick(price(1, B), B)), other)
        self.assertEqual(walked(pattern, "cheap", "ab")[1], 1)
        pattern = pick(row(price(4, A), price(1, A)), row(price(1, A), price(4, A)))
        self.assertEqual(walked(pattern, "cheap", "aa")[1], 0)

    def test_none_where_the_text_does_not_fit(self):
        for taste in TASTES:
            for pattern, text in ((NONE, ""), (NONE, "a"), (A, ""), (A, "b"), (A, "aa"), (row(A, NONE), "a"),
                                  (again(A), "ab"), (again(A), "ba"), (pick(NONE, NONE), ""), (held("x", NONE), ""),
                                  (again(pick(A, A)), "a" * 59 + "b"), (again(A), " " * 60), (BLANK, "~")):
                self.assertIsNone(walked(pattern, taste, text))

    def test_of_the_text_without_signs(self):
        for taste in TASTES:
            self.assertEqual(walked(BLANK, taste, ""), ("blank",))
            self.assertEqual(walked(again(A), taste, ""), ("again", ()))
            self.assertEqual(walked(pick(A, price(1, BLANK), BLANK), taste, "")[1], 2 if taste == "cheap" else 1)
            self.assertEqual(walked(FULL_BLANKS, taste, ""), ("row", (("pick", 0, ("blank",)),) * 4))

    def test_very_many_trees(self):
        once, twice = ("pick", 0, TA), ("pick", 1, TWO_SIGNS)
        for count in (60, 200):
            text = "a" * count
            pattern = again(pick(A, row(A, A)))
            for taste in TASTES:
                turns = (twice,) * (count // 2) if taste == "long" else (once,) * count
                self.assertEqual(walked(pattern, taste, text), ("again", turns))
            pattern = again(pick(price(3, A), price(5, row(A, A)), price(5, row(A, A))))
            tree = walked(pattern, "cheap", text)
            self.assertEqual(tree, ("again", (("pick", 1, ("price", 5, TWO_SIGNS)),) * (count // 2)))
            self.assertEqual(walked(again(pick(A, A)), "shy", text), ("again", (once,) * count))
            pattern = row(*[again(A)] * 6)
            whole, none = ("again", (TA,) * count), ("again", ())
            for taste in TASTES:
                tree = (none,) * 5 + (whole,) if taste in ("shy", "short") else (whole,) + (none,) * 5
                self.assertEqual(walked(pattern, taste, text), ("row", tree))
            for pattern in DEEP + (FULL,):
                for taste in TASTES:
                    tree = walked(pattern, taste, text)
                    if tree is not None:
                        self.assertIs(is_tree(pattern, tree), True)
                        self.assertEqual(text_of(tree), text)
                self.assertIsNone(walked(pattern, "long", text[1:] + "c"))

    def test_more_than_two_hundred_trees(self):
        for taste in TASTES:
            with self.assertRaises(TooMany):
                told(ONE_MORE, taste, SIXTY)
            trees = slow_trees(ONE_MORE, SIXTY)
            self.assertEqual(walked(ONE_MORE, taste, SIXTY), min(trees, key=lambda one: order(taste, one)))


class TakenSignBySign(unittest.TestCase):
    def test_behind_each_sign(self):
        for pattern in PATTERNS + DEEP:
            for taste in TASTES:
                for text in ("aaab", "abba", "aacaa", "baba"):
                    walk = Walk(pattern, taste)
                    for k in range(len(text) + 1):
                        self.assertEqual(walk.text(), text[:k])
                        self.assertEqual(walk.told(), walked(pattern, taste, text[:k]))
                        self.assertEqual(walk.kept(), sorted(beginnings(pattern, text[:k])) if k else [])
                        self.assertIs(type(walk.kept()), list)
                        if k < len(text):
                            self.assertIsNone(walk.take(text[k]))

    # Of all beginnings that come to a place the kept one is ahead of the others, however both are followed.
    def test_the_beginning_ahead_of_all_others(self):
        looked_at = 0
        for pattern in PATTERNS + DEEP + tuple(chance_patterns(102, 150, 4)):
            for text in ("a", "aa", "ab", "aab", "aaaa", "aaab", "abab", "aaaaa"):
                begun = beginnings(pattern, text)
                for taste in TASTES:
                    walk = taken(pattern, taste, text)
                    self.assertEqual(walk.kept(), sorted(begun))
                    for place in walk.kept():
                        self.assertIn(walk.beginning(place), begun[place])
                        if len(begun[place]) == 1:
                            continue
                        for further, end, rest in followings(pattern, place, 3):
                            trees = [tree_of(pattern, text + rest, (one + further, end)) for one in begun[place]]
                            best = min(trees, key=lambda tree: order(taste, tree))
                            self.assertEqual(walk.beginning(place), begun[place][trees.index(best)])
                            looked_at += 1
        self.assertGreater(looked_at, 3000)

    def test_each_is_one_kept_ahead_with_one_step_more(self):
        for pattern in PATTERNS + DEEP:
            for taste in TASTES:
                walk = Walk(pattern, taste)
                before = None
                for sign in "aaabaab":
                    walk.take(sign)
                    after = {place: walk.beginning(place) for place in walk.kept()}
                    for place in after:
                        self.assertEqual(after[place][-1][0], place)
                        if before is None:
                            self.assertEqual(len(after[place]), 1)
                            self.assertIn(after[place][0], starts(pattern))
                        else:
                            ahead = after[place][:-1]
                            self.assertEqual(before[ahead[-1][0]], ahead)
                            self.assertIn(after[place][-1], steps(pattern, ahead[-1][0]))
                    before = after

    def test_kinds_of_a_beginning(self):
        walk = taken(again(pick(A, price(2, A))), "cheap", "aa")
        self.assertEqual(walk.kept(), [0, 1])
        self.assertEqual(walk.beginning(0), [(0, (0, 0), 0), (0, (0, 0), 0)])
        self.assertEqual(walk.beginning(1), [(0, (0, 0), 0), (1, (0, 1), 2)])
        self.assertIs(type(walk.beginning(0)), list)
        self.assertIs(type(walk.beginning(0)[0]), tuple)

    def test_signs_that_no_place_has(self):
        for pattern in (A, again(A), again(pick(A, row(A, AB))), BLANK, NONE):
            for taste in TASTES:
                walk = taken(pattern, taste, "a")
                for k, sign in enumerate("c ~aab"):
                    walk.take(sign)
                    self.assertEqual(walk.text(), "ac ~aab"[:k + 2])
                    self.assertEqual((walk.kept(), walk.told()), ([], None))
                walk = Walk(pattern, taste)
                walk.take("c")
                walk.take("a")
                self.assertEqual((walk.text(), walk.kept(), walk.told()), ("ca", [], None))

    def test_all_signs(self):
        walk = Walk(again(("sign", SIGNS)), "long")
        for sign in SIGNS:
            walk.take(sign)
        self.assertEqual(walk.text(), SIGNS)
        self.assertEqual(text_of(walk.told()), SIGNS)

    def test_two_hundred_signs(self):
        for pattern in (again(pick(A, row(A, A))), DEEP[1], FULL):
            for taste in TASTES:
                walk = Walk(pattern, taste)
                for k in range(200):
                    walk.take("a")
                self.assertEqual(walk.text(), "a" * 200)
                self.assertEqual([len(walk.beginning(place)) for place in walk.kept()], [200] * len(walk.kept()))
                self.assertEqual(walk.told(), walked(pattern, taste, "a" * 200))


class Refused(unittest.TestCase):
    def test_no_taste_ahead_of_all_else(self):
        for thing in NO_TASTES:
            for pattern in (A, NONE, OVERFULL, OVERFULL_BLANKS, HUGE_ONES[0]):
                with self.assertRaises(NoTaste):
                    Walk(pattern, thing)
                for text in ("", "a", "b", SIXTY):
                    with self.assertRaises(NoTaste):
                        walked(pattern, thing, text)

    def test_too_many_as_the_walk_is_made(self):
        for taste in TASTES:
            for pattern in (OVERFULL, OVERFULL_BLANKS) + HUGE_ONES:
                with self.assertRaises(TooMany):
                    Walk(pattern, taste)
                for text in ("", "a", "z"):
                    with self.assertRaises(TooMany):
                        walked(pattern, taste, text)
            for pattern in (FULL, FULL_BLANKS):
                self.assertIsNotNone(walked(pattern, taste, ""))

    def test_nothing_handed_in_is_changed(self):
        things, table = ["first", ["shy"]], {"first": ["shy"]}
        for thing in (things, table):
            with self.assertRaises(NoTaste):
                Walk(A, thing)
            with self.assertRaises(NoTaste):
                walked(A, thing, "a")
        self.assertEqual((things, table), (["first", ["shy"]], {"first": ["shy"]}))


class AskersOwn(unittest.TestCase):
    def test_what_is_told_is_changed_and_asked_for_again(self):
        for taste in TASTES:
            walk = Walk(again(pick(A, row(A, A))), taste)
            walk.kept().append(3)
            for k in range(4):
                self.assertEqual(len(walk.kept()), 0 if k == 0 else 3 if k > 1 else 2)
                for change in (list.clear, list.reverse, lambda told: told.append(0)):
                    kept = walk.kept()
                    change(walk.kept())
                    self.assertEqual(walk.kept(), kept)
                    for place in kept:
                        beginning = walk.beginning(place)
                        change(walk.beginning(place))
                        self.assertEqual(walk.beginning(place), beginning)
                self.assertEqual(walk.told(), walked(again(pick(A, row(A, A))), taste, "a" * k))
                walk.take("a")

    def test_two_walks_do_not_disturb_one_another(self):
        pairs = list(itertools.product(DEEP[:4], TASTES))
        walks = [Walk(pattern, taste) for pattern, taste in pairs]
        for k, sign in enumerate("aaaaa"):
            for walk, (pattern, taste) in zip(walks, pairs):
                walk.take(sign)
            for walk, (pattern, taste) in zip(walks[::-1], pairs[::-1]):
                alone = taken(pattern, taste, "aaaaa"[:k + 1])
                self.assertEqual((walk.text(), walk.kept(), walk.told()), (alone.text(), alone.kept(), alone.told()))
                for place in walk.kept():
                    self.assertEqual(walk.beginning(place), alone.beginning(place))

    def test_asking_changes_nothing(self):
        asked, unasked = Walk(DEEP[2], "long"), Walk(DEEP[2], "long")
        for sign in "aaaa":
            for walk in (asked, unasked):
                walk.take(sign)
            for k in range(2):
                asked.told()
                asked.kept()
                asked.text()
                [asked.beginning(place) for place in asked.kept()]
        self.assertEqual(asked.told(), unasked.told())
        self.assertEqual([asked.beginning(place) for place in asked.kept()],
                         [unasked.beginning(place) for place in unasked.kept()])


if __name__ == "__main__":
    unittest.main()
