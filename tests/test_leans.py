"""9.2 and 6.1, as far as they tell of rooms and leans: which of two beginnings is ahead, and what they have in common."""

import itertools
import unittest

from tastegrove.leans import exchanged, gone_on, standing_of
from tastegrove.patterns import is_pattern
from tastegrove.runs import run_of, trails_of_run, tree_of
from tastegrove.tastes import is_ahead
from tastegrove.trails import Trails, rooms_of_places
from tests.samples import (A, AB, B, BLANK, PATTERNS, again, chance_patterns, held, pick, price, row, slow_marks,
                           slow_trees, texts_up_to)

LEANING = ("first", "shy", "long", "short")
# Rows and agains within one another, so that rooms are left one by one and several at once, early and late.
DEEP = (
    row(again(row(again(A), A, pick(BLANK, A))), again(A)),
    again(row(again(pick(A, row(A, A))), A)),
    row(row(again(A), again(A)), row(again(A), again(A))),
    row(row(row(again(A), pick(A, BLANK)), again(A)), pick(again(A), row(A, A))),
    again(row(A, again(row(A, again(A))))),
    row(pick(row(A, A), A), pick(A, row(A, A)), again(pick(row(A, A), A))),
    again(pick(row(again(A), A), row(A, again(A)), A)),
    row(pick(again(A), again(row(A, again(A)))), again(row(again(A), A))),
    held("x", row(price(1, again(pick(A, row(A, AB)))), held("y", again(AB)))),
    row(again(pick(row(A, pick(BLANK, BLANK)), A)), pick(again(A), again(A))),
    row(row(pick(BLANK, A), row(again(A), pick(A, BLANK))), row(again(A), again(row(A, A)))),
    row(again(row(again(A), row(pick(A, BLANK), B))), again(AB)),
)


# For each sign of the tree the rooms around it, from the outermost inwards: pairs of the way down to it, and how many
# marks come ahead of its being entered.
def rooms_around(tree, way, marks, rooms, found):
    kind = tree[0]
    if kind == "sign":
        found.append(list(rooms))
    if kind == "pick":
        marks = rooms_around(tree[2], way + (tree[1],), marks + 1, rooms, found)
    if kind in ("held", "price"):
        marks = rooms_around(tree[2], way + (0,), marks, rooms, found)
    if kind in ("row", "again"):
        for k, inner in enumerate(tree[1]):
            marks += kind == "again"
            marks = rooms_around(inner, way + (k,), marks, rooms + [(way + (k,), marks)], found)
        marks += kind == "again"
    return marks


def rooms_by_signs(tree):
    found = []
    rooms_around(tree, (), 0, [], found)
    return found


# For two unlike trees of a text a list, by the signs and at last by the end: None while their beginnings are alike,
# then their standing by the taste.
def standings(taste, ones, others):
    standing, found = None, []
    for one, other in zip(ones, others):
        if standing is not None:
            standing = gone_on(taste, standing, one, other)
        elif one.marks != other.marks:
            standing = standing_of(taste, one, other)
        found.append(standing)
    return found


# Pairs of unlike trees of one text, with the trails of both.
def pairs_of(pattern, texts, most):
    trails = Trails(pattern)
    for text in texts:
        rows = [(tree, [pair[0] for pair in trails_of_run(trails, run_of(pattern, tree))])
                for tree in slow_trees(pattern, text)[:most]]
        for (tree, ones), (other, others) in itertools.permutations(rows, 2):
            yield text, tree, ones, other, others


class Rooms(unittest.TestCase):
    def test_these_are_patterns(self):
        for pattern in DEEP:
            self.assertIs(is_pattern(pattern), True)

    def test_of_places(self):
        for pattern, rooms in ((A, [0]), (held("x", price(2, pick(A, A))), [0, 0]), (again(A), [1]), (row(A, A), [1, 1]),
                               (row(A, row(A, again(A))), [1, 2, 3]), (again(row(A, again(pick(A, row(A, B))))), [2, 3, 4, 4]),
                               (pick(A, row(again(A), A)), [0, 2, 1])):
            self.assertEqual(rooms_of_places(pattern), rooms)

    def test_stayed_in(self):
        trails = Trails(again(row(A, again(B))))
        # By a turn's end the turn is left, though another one begins.
        self.assertEqual([step.marks for step in trails.steps[1]], [(0,), (1, 0)])
        self.assertEqual([step.stays for step in trails.steps[1]], [(2, 2), (0, 0, 0)])
        self.assertEqual([step.stays for step in trails.steps[0]], [(1, 2), (0, 0, 0)])
        self.assertEqual([end.stays for end in trails.ends[0]], [(0, 0, 0)])
        # A start leaves none; the turn is entered behind its mark.
        self.assertEqual([start.stays for start in trails.starts], [(0, 0)])
        # A room that is entered and left on the way: both picks of it leave it.
        trails = Trails(row(A, pick(BLANK, BLANK), row(pick(BLANK, B), A)))
        self.assertEqual([step.stays for step in trails.steps[0]], [(0, 0, 1), (0, 0, 2), (0, 0, 1), (0, 0, 2)])

    def test_standing_of_two(self):
        trails = Trails(again(row(A, again(B))))
        further, anew = trails.steps[1]
        for taste, lean in (("first", 0), ("shy", 1), ("long", 0), ("short", 1)):
            self.assertEqual(standing_of(taste, further, anew), (0, lean))
            self.assertEqual(standing_of(taste, anew, further), (0, 1 - lean))
        trails = Trails(row(row(pick(A, A), again(A)), again(A)))
        for taste in LEANING:
            self.assertEqual(standing_of(taste, trails.starts[0], trails.starts[1]), (2, 0))
            self.assertEqual(standing_of(taste, trails.starts[1], trails.starts[0]), (2, 1))

    def test_gone_on(self):
        trails = Trails(row(row(again(A), again(A)), again(A)))
        stay, inner, outer = trails.steps[0]
        self.assertEqual([trail.stays[0] for trail in (stay, inner, outer)], [2, 1, 0])
        for common in range(3):
            for lean in range(2):
                for one in (stay, inner, outer):
                    for other in (stay, inner, outer):
                        counts = (min(common, one.stays[0]), min(common, other.stays[0]))
                        for taste in LEANING:
                            expected = lean
                            if taste in ("long", "short") and counts[0] != counts[1]:
                                expected = int(counts[0] < counts[1]) if taste == "long" else int(counts[0] > counts[1])
                            self.assertEqual(gone_on(taste, (common, lean), one, other), (min(counts), expected))

    def test_exchanged(self):
        self.assertEqual(exchanged((3, 0)), (3, 1))
        self.assertEqual(exchanged((0, 1)), (0, 0))


class Leans(unittest.TestCase):
    def test_rooms_in_common(self):
        looked_at = 0
        for pattern in DEEP + PATTERNS + tuple(chance_patterns(91, 150, 4)):
            for text, tree, ones, other, others in pairs_of(pattern, ("aa", "aaa", "aaab", "aaaa", "abab"), 8):
                marks = zip(slow_marks(tree), slow_marks(other))
                at = [one == another for one, another in marks].index(False)
                rooms, other_rooms = rooms_by_signs(tree), rooms_by_signs(other)
                found = standings("long", ones, others)
                for k, standing in enumerate(found[:-1]):
                    if standing is not None:
                        common = [room for room in rooms[k] if room[1] <= at and room in other_rooms[k]]
                        self.assertEqual(standing[0], len(common), (pattern, text, tree, other, k))
                        looked_at += len(common) > 0
                self.assertEqual(found[-1][0], 0)
        self.assertGreater(looked_at, 1000)

    def test_at_the_ends_they_say_what_is_ahead_says(self):
        said = {taste: [0, 0] for taste in LEANING}
        for pattern in DEEP + PATTERNS + tuple(chance_patterns(92, 300, 4)):
            for text, tree, ones, other, others in pairs_of(pattern, texts_up_to("ab", 3) + ["aaaa", "aaab", "aaaaa"], 10):
                for taste in LEANING:
                    lean = standings(taste, ones, others)[-1][1]
                    self.assertIs(is_ahead(taste, tree, other), lean == 0, (taste, tree, other))
                    said[taste][lean] += 1
        self.assertGreater(min(min(counts) for counts in said.values()), 1000)

    # Two beginnings that come to one place, followed by what follows the one and by what follows the other.
    def test_followed_alike(self):
        looked_at = 0
        for pattern in DEEP + PATTERNS + tuple(chance_patterns(93, 150, 4)):
            for text, tree, ones, other, others in pairs_of(pattern, ("aa", "aaa", "aab", "aaaa", "aaab", "abab"), 7):
                run, other_run = run_of(pattern, tree), run_of(pattern, other)
                for k in range(len(text)):
                    if run[0][k][0] != other_run[0][k][0] or run[0][:k + 1] == other_run[0][:k + 1]:
                        continue
                    for follows, end in (run, other_run):
                        one = tree_of(pattern, text, (run[0][:k + 1] + follows[k + 1:], end))
                        another = tree_of(pattern, text, (other_run[0][:k + 1] + follows[k + 1:], end))
                        for taste in LEANING:
                            lean = standings(taste, ones, others)[k][1]
                            self.assertIs(is_ahead(taste, one, another), lean == 0)
                            looked_at += 1
        self.assertGreater(looked_at, 5000)

    def test_leans_of_first_and_shy_never_change(self):
        for pattern in DEEP:
            for text, tree, ones, other, others in pairs_of(pattern, ("aaa", "aaaa"), 8):
                for taste in ("first", "shy"):
                    leans = {standing[1] for standing in standings(taste, ones, others) if standing is not None}
                    self.assertEqual(len(leans), 1)

    def test_by_shy_it_is_an_again_that_turns_it(self):
        pattern = row(pick(A, row(A, A)), again(A), pick(BLANK, A))
        trails = Trails(pattern)
        for taste, lean in (("first", 0), ("shy", 0)):
            self.assertEqual(standing_of(taste, trails.starts[0], trails.starts[1])[1], lean)
        for taste, lean in (("first", 0), ("shy", 1)):
            self.assertEqual(standing_of(taste, trails.steps[0][0], trails.steps[0][1])[1], lean)


if __name__ == "__main__":
    unittest.main()
