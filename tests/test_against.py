"""9.1 to 9.3 and 0.4: the least text of which two tastes put two trees otherwise, or a paper that there is none."""

import itertools
import random
import unittest

from tastegrove.against import held_against, lets_against
from tastegrove.errors import NoTaste, TooMany
from tastegrove.leans import gone_on, standing_of
from tastegrove.places import places_of
from tastegrove.tastes import is_ahead
from tastegrove.trails import Trails, rooms_of_places
from tastegrove.trees import is_tree, text_of
from tests.samples import (A, AB, B, BLANK, FULL, HUGE_ONES, NONE, OVERFULL, OVERFULL_BLANKS, PATTERNS, again,
                           chance_patterns, held, pick, price, row, sign_makes, slow_trees, texts_up_to)
from tests.test_leans import DEEP, LEANING, standings
from tests.test_tastes import NO_TASTES, order
from tests.test_twos import LATE, SINGLE

HUGE = 10 ** 40
C = ("sign", "c")
PAIRS = tuple(itertools.combinations(LEANING, 2))
# Agains within agains, and rows within agains, whose rooms are left and entered by one step; some of their texts have
# very many trees.
ROOMS = (
    again(row(again(A), B)),
    again(row(A, again(A))),
    again(row(A, again(row(A, again(B))))),
    again(row(again(row(A, again(A))), B)),
    row(again(row(A, pick(A, BLANK))), B),
    again(row(pick(A, row(A, A)), pick(A, BLANK), B)),
    again(row(row(A, again(B)), row(again(A), B))),
    row(row(row(A, again(A)), B), again(row(A, B))),
    again(pick(row(A, again(B)), row(A, B))),
    row(again(pick(A, row(A, B))), pick(again(B), again(A))),
    row(pick(A, row(A, A)), B),
    row(pick(A, A), again(B)),
    pick(row(A, again(A)), again(A)),
    row(again(row(A, A)), again(A)),
    again(row(A, row(pick(BLANK, B), pick(B, BLANK)))),
)


# The least of the texts of which the tastes put some two trees otherwise.
def slow_unlike(pattern, one, other, texts):
    for text in texts:
        trees = slow_trees(pattern, text)
        if sorted(trees, key=lambda tree: order(one, tree)) != sorted(trees, key=lambda tree: order(other, tree)):
            return text
    return None


# What is known of each two unlike beginnings of each of the texts.
def slow_paper(pattern, one, other, texts):
    trails, signs, found = Trails(pattern), places_of(pattern), set()
    for text in texts:
        begun = [[start] for start in trails.starts if text[0] in signs[start.place]]
        for sign in text[1:]:
            begun = [run + [step] for run in begun for step in trails.steps[run[-1].place] if sign in signs[step.place]]
        begun.sort(key=lambda run: [trail.marks for trail in run])
        for first, second in itertools.combinations(begun[:30], 2):
            (common, lean), (same, other_lean) = [standings(taste, first, second)[-1] for taste in (one, other)]
            assert common == same
            found.add((first[-1].place, second[-1].place, common, lean, other_lean))
    return found


# By the letter of 9.3.
def slow_lets(pattern, one, other, paper):
    trails, signs, rooms = Trails(pattern), places_of(pattern), rooms_of_places(pattern)

    def has(first, second, standings):
        if not any(sign in signs[second.place] for sign in signs[first.place]):
            return True
        (common, lean), (same, other_lean) = standings
        assert common == same
        return (first.place, second.place, common, lean, other_lean) in paper

    for listed in [trails.starts] + trails.steps:
        for first, second in itertools.combinations(sorted(listed, key=lambda trail: trail.marks), 2):
            if not has(first, second, [standing_of(taste, first, second) for taste in (one, other)]):
                return False
    for p, q, common, lean, other_lean in paper:
        if p not in range(len(signs)) or q not in range(len(signs)) or {lean, other_lean} - {0, 1}:
            return False
        if not 0 <= common <= min(rooms[p], rooms[q]):
            return False
        if trails.ends[p] and trails.ends[q] and lean != other_lean:
            return False
        for first in trails.steps[p]:
            for second in trails.steps[q]:
                leans = [gone_on(taste, (common, which), first, second)
                         for taste, which in ((one, lean), (other, other_lean))]
                if not has(first, second, leans):
                    return False
    return True


class HeldAgainst(unittest.TestCase):
    def check_unlike(self, pattern, one, other, answer):
        kind, text, tree, behind = answer
        self.assertEqual((type(answer), kind), (tuple, "unlike"))
        for inner in (tree, behind):
            self.assertIs(is_tree(pattern, inner), True)
            self.assertEqual(text_of(inner), text)
        self.assertIs(is_ahead(one, tree, behind), True)
        self.assertIs(is_ahead(other, behind, tree), True)

    def test_the_least_text_and_two_such_trees(self):
        said = {pair: [] for pair in PAIRS}
        for pattern in ROOMS + DEEP + PATTERNS + tuple(chance_patterns(161, 300, 4)):
            for one, other in PAIRS:
                least = slow_unlike(pattern, one, other, texts_up_to("ab", 4))
                for first, second in ((one, other), (other, one)):
                    answer = held_against(pattern, first, second)
                    if answer[0] == "unlike":
                        self.check_unlike(pattern, first, second, answer)
                        self.assertEqual(answer[1] if len(answer[1]) <= 4 else None, least)
                        self.assertIs(lets_against(pattern, first, second, []), False)
                    else:
                        self.assertIsNone(least)
                        self.assertEqual((len(answer), answer[0], type(answer[1])), (2, "alike", list))
                        self.assertIs(lets_against(pattern, first, second, answer[1]), True)
                said[(one, other)].append(answer[0])
        for pair in PAIRS:
            self.assertGreater(min(said[pair].count("unlike"), said[pair].count("alike")), 10, pair)

    def test_one_taste_and_itself(self):
        for pattern in ROOMS + DEEP + PATTERNS:
            for taste in LEANING:
                kind, paper = held_against(pattern, taste, taste)
                self.assertEqual(kind, "alike")
                self.assertIs(lets_against(pattern, taste, taste, paper), True)

    def test_what_is_told(self):
        turns, none = ("again", (("sign", "a"),)), ("again", ())
        pattern = row(again(A), again(A))
        ahead, behind = ("row", (turns, none)), ("row", (none, turns))
        for one in LEANING:
            for other in LEANING:
                answer = held_against(pattern, one, other)
                if (one in ("first", "long")) == (other in ("first", "long")):
                    self.assertEqual(answer[0], "alike")
                elif one in ("first", "long"):
                    self.assertEqual(answer, ("unlike", "a", ahead, behind))
                else:
                    self.assertEqual(answer, ("unlike", "a", behind, ahead))
        # All tastes put the parts of picks alike, over one stretch.
        pattern = row(pick(A, A), again(B), pick(B, row(B, B)))
        for one, other in PAIRS:
            self.assertEqual(held_against(pick(A, row(AB, BLANK), B), one, other)[0], "alike")
            self.assertEqual(held_against(pick(BLANK, again(A)), one, other)[0], "alike")
        self.assertEqual(held_against(pattern, "first", "shy")[:2], ("unlike", "abb"))

    def test_the_paper_of_alike_ones(self):
        pattern = row(pick(A, A), again(B))
        for one, other in PAIRS:
            self.assertEqual(held_against(pattern, one, other), ("alike", [(0, 1, 1, 0, 0), (2, 2, 0, 0, 0)]))
        pattern = row(again(A), again(A))
        self.assertEqual(sorted(held_against(pattern, "first", "long")[1]), [(0, 1, 0, 0, 0), (1, 1, 0, 0, 0)])

    def test_told_only_after_many_signs(self):
        # The text with two trees comes late; of these the first part is the shorter, the second the longer one.
        pattern = row(pick(row(again(row(A, A, A)), B), row(A, again(row(A, A, A, A, A)), B, B)), pick(B, BLANK))
        self.assertEqual(held_against(pattern, "first", "long")[:2], ("unlike", "a" * 6 + "bb"))
        self.assertEqual(held_against(pattern, "first", "short")[0], "alike")
        self.assertEqual(held_against(LATE, "first", "long")[0], "alike")

    def test_by_length_and_then_by_signs(self):
        pattern = pick(row(B, again(B), again(B)), row(("sign", "ac"), again(C), again(C)))
        self.assertEqual(held_against(pattern, "first", "shy")[:2], ("unlike", "ac"))
        source = random.Random(162)
        signs = ["a", "b", "ab", "ac", "bc", "c", "abc"]
        for k in range(60):
            one, two, three, four = [("sign", source.choice(signs)) for k in range(4)]
            pattern = row(pick(one, row(two, three)), again(four), pick(again(two), row(one, three)))
            for tastes in (("first", "shy"), ("first", "long"), ("short", "long")):
                answer = held_against(pattern, *tastes)
                self.assertEqual(answer[1] if answer[0] == "unlike" and len(answer[1]) < 5 else None,
                                 slow_unlike(pattern, *tastes, texts_up_to("abc", 4)))

    def test_all_that_is_known_of_beginnings_is_in_the_paper(self):
        looked_at = 0
        for pattern in ROOMS + DEEP + PATTERNS:
            for one, other in itertools.product(LEANING, repeat=2):
                answer = held_against(pattern, one, other)
                if answer[0] == "alike":
                    found = slow_paper(pattern, one, other, texts_up_to("ab", 4)[1:])
                    self.assertLessEqual(found, set(answer[1]))
                    self.assertEqual(len(set(answer[1])), len(answer[1]))
                    looked_at += len(found)
        self.assertGreater(looked_at, 2000)


class LetsAgainst(unittest.TestCase):
    def alike_ones(self):
        for pattern in ROOMS + DEEP[:6] + SINGLE + PATTERNS:
            for one, other in PAIRS + (("long", "long"), ("shy", "shy")):
                answer = held_against(pattern, one, other)
                if answer[0] == "alike":
                    yield pattern, one, other, answer[1]

    def test_papers_that_lack_one(self):
        looked_at = 0
        for pattern, one, other, paper in self.alike_ones():
            for k in range(0, len(paper), 1 + len(paper) // 8):
                self.assertIs(lets_against(pattern, one, other, paper[:k] + paper[k + 1:]), False)
                looked_at += 1
            self.assertIs(lets_against(pattern, one, other, tuple(paper)), True)
            self.assertIs(lets_against(pattern, one, other, paper[::-1] + paper), True)
        self.assertGreater(looked_at, 200)

    def test_what_is_none_is_not_let_by(self):
        for pattern, one, other, paper in self.alike_ones():
            count, rooms = sign_makes(pattern), rooms_of_places(pattern)
            if count == 0:
                continue
            for known in ((-1, 0, 0, 0, 0), (0, -1, 0, 0, 0), (count, 0, 0, 0, 0), (0, count, 0, 0, 0), (HUGE, HUGE, 0, 0, 0),
                          (0, 0, 0, 2, 2), (0, 0, 0, -1, -1), (0, 0, 0, 0, 2), (0, 0, 0, 1, -1), (0, 0, 0, HUGE, HUGE),
                          (0, 0, rooms[0] + 1, 0, 0), (0, 0, HUGE, 0, 0), (0, 0, -1, 0, 0), (0, 0, -HUGE, 1, 1)):
                self.assertIs(lets_against(pattern, one, other, paper + [known]), False)
            fewest, most = rooms.index(min(rooms)), rooms.index(max(rooms))
            for known in ((fewest, most, rooms[most] + 1, 0, 0), (fewest, most, rooms[fewest] + 1, 0, 0),
                          (most, fewest, rooms[fewest] + 1, 0, 0)):
                self.assertIs(lets_against(pattern, one, other, paper + [known]), False)

    def test_leans_where_nothing_follows(self):
        # From these two places no two steps lead to a sign in common, and they have no ends.
        pattern = row(pick(A, row(B, B)), C)
        for one in (-1, 0, 1, 2, 3, HUGE):
            for other in (-1, 0, 1, 2, 3, HUGE):
                for common in (-1, 0, 1, 2):
                    self.assertIs(lets_against(pattern, "first", "long", [(0, 1, common, one, other)]),
                                  one in (0, 1) and other in (0, 1) and common in (0, 1))

    def test_one_more(self):
        # Both have ends.
        pattern = again(A)
        self.assertEqual(held_against(pattern, "first", "shy"), ("alike", []))
        for common in (0, 1):
            for lean in (0, 1):
                self.assertIs(lets_against(pattern, "first", "shy", [(0, 0, common, lean, 1 - lean), (0, 0, 0, lean, 1 - lean)]),
                              False)
                self.assertIs(lets_against(pattern, "first", "shy", [(0, 0, common, lean, lean), (0, 0, 0, lean, lean)]), True)
        # The turn is left by each step, so that what comes of one room in common is none in common.
        self.assertIs(lets_against(pattern, "first", "shy", [(0, 0, 1, 0, 0)]), False)
        self.assertIs(lets_against(pattern, "first", "shy", [(0, 0, 0, 0, 0)]), True)

    def test_both_ways_about(self):
        # Of one place also the same step, and each two either way about.
        pattern = again(row(A, pick(B, row(B, C))))
        steps = [(0, 1, 0, 0, 0), (1, 0, 0, 0, 0)]
        for one, other in PAIRS:
            kind, paper = held_against(pattern, one, other)
            self.assertEqual(kind, "alike")
            for known in steps + [(0, 0, 0, 0, 0)]:
                self.assertIs(lets_against(pattern, one, other, paper + [known]),
                              slow_lets(pattern, one, other, paper + [known]))
        pattern = row(A, pick(A, B))
        kind, paper = held_against(pattern, "first", "shy")
        self.assertEqual(paper, [])
        self.assertIs(lets_against(pattern, "first", "shy", [(0, 0, 0, 0, 0)]), False)
        self.assertIs(lets_against(pattern, "first", "shy", [(0, 0, 0, 0, 0), (1, 1, 0, 0, 0), (2, 2, 0, 0, 0)]), True)
        pattern = row(A, pick(A, row(AB, BLANK)))
        both = [(0, 0, 0, 0, 0), (1, 1, 0, 0, 0), (2, 2, 0, 0, 0), (1, 2, 1, 0, 0)]
        self.assertIs(lets_against(pattern, "first", "shy", both + [(1, 2, 0, 0, 0)]), False)
        self.assertIs(lets_against(pattern, "first", "shy", both + [(1, 2, 0, 0, 0), (2, 1, 0, 0, 0)]), True)
        self.assertIs(lets_against(pattern, "first", "shy", both + [(2, 1, 0, 0, 0)]), False)

    def test_by_the_letter(self):
        source = random.Random(163)
        answers = []
        for pattern in ROOMS + SINGLE + PATTERNS + tuple(chance_patterns(164, 120, 4)):
            rooms = rooms_of_places(pattern)
            places = range(len(rooms))
            for one, other in PAIRS:
                told = held_against(pattern, one, other)
                base = told[1] if told[0] == "alike" else []
                for k in range(3):
                    paper = [known for known in base if source.random() < 0.97]
                    for n in range(source.randint(0, 3)):
                        p, q = source.choice(list(places) or [0]), source.choice(list(places) or [0])
                        paper.append((p, q, source.randint(0, 2), *source.choice(((0, 0), (1, 1), (0, 1)))))
                    answer = lets_against(pattern, one, other, paper)
                    self.assertIs(answer, slow_lets(pattern, one, other, paper), (pattern, one, other, paper))
                    self.assertFalse(answer and told[0] == "unlike")
                    answers.append(answer)
        self.assertGreater(min(answers.count(True), answers.count(False)), 500)


class Refusals(unittest.TestCase):
    def test_no_taste_ahead_of_all_else(self):
        for pattern in (A, OVERFULL, HUGE_ONES[0]):
            for thing in NO_TASTES + ("cheap",):
                for one, other in ((thing, "first"), ("first", thing), (thing, thing)):
                    with self.assertRaises(NoTaste):
                        held_against(pattern, one, other)
                    with self.assertRaises(NoTaste):
                        lets_against(pattern, one, other, [])

    def test_too_many(self):
        for pattern in (OVERFULL, OVERFULL_BLANKS) + HUGE_ONES:
            for one, other in PAIRS + (("long", "long"),):
                with self.assertRaises(TooMany):
                    held_against(pattern, one, other)
                with self.assertRaises(TooMany):
                    lets_against(pattern, one, other, [(-1, 0, 0, 0, 0)])
        self.assertEqual(held_against(FULL, "first", "long")[0], "alike")


class Own(unittest.TestCase):
    def test_nothing_is_changed_or_kept(self):
        for pattern in ROOMS[:6] + (NONE, held("x", price(1, row(again(A), B)))):
            answer = held_against(pattern, "long", "long")
            paper = list(answer[1])
            lets_against(pattern, "long", "long", answer[1])
            self.assertEqual(answer[1], paper)
            answer[1].append((0, 0, 0, 0, 0))
            self.assertEqual(held_against(pattern, "long", "long"), ("alike", paper))


if __name__ == "__main__":
    unittest.main()
