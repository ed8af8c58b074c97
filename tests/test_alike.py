"""11.1, 11.2 and 0.4: the least text of which two tastes tell unlike trees, or a paper that there is none."""

import itertools
import random
import unittest

from tastegrove.against import held_against
from tastegrove.alike import lets_same, told_apart
from tastegrove.counts import many
from tastegrove.errors import NoTaste, TooMany
from tastegrove.patterns import is_pattern
from tastegrove.tables import table_of
from tastegrove.tastes import told
from tastegrove.texts import read_pattern
from tastegrove.walks import walked
from tests.samples import (A, AB, B, BLANK, FULL, HUGE_ONES, NONE, OVERFULL, OVERFULL_BLANKS, PATTERNS, again,
                           chance_patterns, held, pick, price, row, slow_trees, texts_up_to)
from tests.test_against import PAIRS, ROOMS
from tests.test_leans import DEEP, LEANING
from tests.test_tables import FOUR_HUNDRED, ONE_ROW_MORE
from tests.test_tastes import NO_TASTES, order

HUGE = 10 ** 40
C = ("sign", "c")
# By short and shy these two have 2000 and 2001 triples, and tell the same.
MUCH = "(([a] (*((*([a] [ab]) (([a] [a]) [ab] *[a])) [ab] *(([b] [ab]) [a])) *[ab]) -) | "
FULL_PAPER = read_pattern(MUCH + "*(([de] [de] [de] [d]) *[de] [d]))")
OVERFULL_PAPER = read_pattern(MUCH + "*([de] ([d] [de] [de] [de]) *[d]))")
# Picks of which the first part is the longer or the shorter one, with what is left for another part.
PICKS = (
    row(pick(row(A, A), A), pick(BLANK, A)),
    row(pick(row(A, A), A), again(A)),
    again(row(pick(row(A, B), A), pick(BLANK, B))),
    row(B, pick(row(A, A, B), row(A, A), A), pick(row(A, B), B, BLANK)),
    row(pick(A, row(A, A)), pick(BLANK, A)),
    row(again(A), pick(row(A, A), A), again(A)),
)


def slow_apart(pattern, one, other, texts):
    for text in texts:
        trees = slow_trees(pattern, text)
        if trees and min(trees, key=lambda tree: order(one, tree)) != min(trees, key=lambda tree: order(other, tree)):
            return text
    return None


# By the letter of 11.2.
def slow_lets(pattern, one, other, paper):
    ones, others = table_of(pattern, one), table_of(pattern, other)
    if (0, 0, ()) not in paper:
        return False
    for i, j, places in paper:
        if i not in range(len(ones)) or j not in range(len(others)):
            return False
        (kept, end, moves), (other_kept, other_end, other_moves) = ones[i], others[j]
        if end != other_end or (end is not None and end[0] is not None and end[0] not in places):
            return False
        if set(moves) != set(other_moves):
            return False
        for sign in moves:
            (to, froms), (other_to, other_froms) = moves[sign], other_moves[sign]
            froms = dict(zip(ones[to][0], froms))
            other_froms = dict(zip(others[other_to][0], other_froms))
            same = [place for place in sorted(froms) if place in other_froms and froms[place] == other_froms[place]
                    and (froms[place][0] is None or froms[place][0] in places)]
            if (to, other_to, tuple(same)) not in paper:
                return False
    return True


class ToldApart(unittest.TestCase):
    def test_the_least_text(self):
        said = {pair: [] for pair in PAIRS}
        for pattern in PICKS + ROOMS + DEEP + PATTERNS + tuple(chance_patterns(201, 250, 4)):
            for one, other in PAIRS:
                least = slow_apart(pattern, one, other, texts_up_to("ab", 4))
                for first, second in ((one, other), (other, one)):
                    answer = told_apart(pattern, first, second)
                    self.assertIs(type(answer), tuple)
                    if answer[0] == "apart":
                        self.assertEqual(len(answer), 2)
                        self.assertEqual(answer[1] if len(answer[1]) <= 4 else None, least)
                        self.assertNotEqual(walked(pattern, first, answer[1]), walked(pattern, second, answer[1]))
                    else:
                        self.assertIsNone(least)
                        self.assertEqual((len(answer), answer[0], type(answer[1])), (2, "same", list))
                        self.assertIs(lets_same(pattern, first, second, answer[1]), True)
                said[(one, other)].append(answer[0])
        for pair in PAIRS:
            self.assertGreater(min(said[pair].count("apart"), said[pair].count("same")), 8, pair)

    def test_against_told_of_every_shorter_text(self):
        for pattern in DEEP + ROOMS:
            for one, other in PAIRS:
                answer = told_apart(pattern, one, other)
                length = len(answer[1]) if answer[0] == "apart" else 6
                for text in texts_up_to("ab", min(length, 6)):
                    if many(pattern, text) > 200:
                        continue
                    if answer == ("apart", text):
                        self.assertNotEqual(told(pattern, one, text), told(pattern, other, text))
                        break
                    self.assertEqual(told(pattern, one, text), told(pattern, other, text))

    def test_one_taste_and_itself(self):
        for pattern in ROOMS + DEEP + PATTERNS:
            for taste in LEANING:
                kind, paper = told_apart(pattern, taste, taste)
                self.assertEqual(kind, "same")
                self.assertIs(lets_same(pattern, taste, taste, paper), True)
                rows = {(i, i) for i in range(len(table_of(pattern, taste)))}
                self.assertEqual({triple[:2] for triple in paper}, rows)

    def test_what_is_told(self):
        pattern = row(again(A), again(A))
        for one, other in itertools.product(LEANING, repeat=2):
            if (one in ("first", "long")) == (other in ("first", "long")):
                self.assertEqual(told_apart(pattern, one, other)[0], "same")
            else:
                self.assertEqual(told_apart(pattern, one, other), ("apart", "a"))
        self.assertEqual(told_apart(row(A, B), "first", "long"), ("same", [(0, 0, ()), (1, 1, (0,)), (2, 2, (1,))]))
        self.assertEqual(told_apart(NONE, "first", "long"), ("same", [(0, 0, ())]))
        # Two trees are put otherwise, but a third one is ahead of both by either.
        pattern = pick(row(A, A), row(again(A), again(A)))
        self.assertEqual(told_apart(pattern, "first", "shy"), ("apart", "a"))
        pattern = pick(A, row(again(A), again(A), B), row(pick(A, BLANK), pick(BLANK, A)))
        self.assertEqual(held_against(pattern, "first", "short")[:2], ("unlike", "a"))
        self.assertEqual(told_apart(pattern, "first", "short"), ("apart", "ab"))

    # What is put otherwise is not told otherwise.
    def test_unlike_but_the_same(self):
        pattern = pick(again(A), row(again(A), again(A)))
        for one, other in PAIRS:
            answer = told_apart(pattern, one, other)
            self.assertEqual(answer[0], "same")
            self.assertIs(lets_same(pattern, one, other, answer[1]), True)
        self.assertEqual(held_against(pattern, "first", "shy")[:2], ("unlike", "a"))

    def test_those_that_are_put_alike_are_told_the_same(self):
        alike = 0
        for pattern in ROOMS + DEEP + PATTERNS + tuple(chance_patterns(202, 200, 4)):
            for one, other in PAIRS:
                if held_against(pattern, one, other)[0] == "alike":
                    self.assertEqual(told_apart(pattern, one, other)[0], "same")
                    alike += 1
        self.assertGreater(alike, 300)

    def test_told_only_after_many_signs(self):
        pattern = row(pick(row(again(row(A, A, A)), B), row(A, again(row(A, A, A, A, A)), B, B)), pick(B, BLANK))
        self.assertEqual(told_apart(pattern, "first", "long"), ("apart", "a" * 6 + "bb"))
        self.assertEqual(told_apart(pattern, "first", "short")[0], "same")

    def test_by_length_and_then_by_signs(self):
        pattern = pick(row(B, again(B), again(B)), row(("sign", "ac"), again(C), again(C)))
        self.assertEqual(told_apart(pattern, "first", "shy"), ("apart", "ac"))
        source = random.Random(203)
        signs = ["a", "b", "ab", "ac", "bc", "c", "abc"]
        for k in range(60):
            one, two, three, four = [("sign", source.choice(signs)) for k in range(4)]
            pattern = row(pick(one, row(two, three)), again(four), pick(again(two), row(one, three)))
            for tastes in (("first", "shy"), ("first", "long"), ("short", "long")):
                answer = told_apart(pattern, *tastes)
                self.assertEqual(answer[1] if answer[0] == "apart" and len(answer[1]) < 5 else None,
                                 slow_apart(pattern, *tastes, texts_up_to("abc", 4)))

    def test_two_thousand_triples(self):
        for pattern in (FULL_PAPER, OVERFULL_PAPER):
            self.assertIs(is_pattern(pattern), True)
            self.assertLess(max(len(table_of(pattern, taste)) for taste in ("short", "shy")), 400)
        kind, paper = told_apart(FULL_PAPER, "short", "shy")
        self.assertEqual((kind, len(paper), len(set(paper))), ("same", 2000, 2000))
        self.assertIs(lets_same(FULL_PAPER, "short", "shy", paper), True)
        with self.assertRaises(TooMany):
            told_apart(OVERFULL_PAPER, "short", "shy")
        # A text that is told apart ahead of them is told.
        pattern = pick(OVERFULL_PAPER[1][0], row(again(C), again(C)))
        self.assertEqual(told_apart(pattern, "first", "shy"), ("apart", "c"))


class LetsSame(unittest.TestCase):
    def same_ones(self, patterns):
        for pattern in patterns:
            for one, other in PAIRS + (("long", "long"), ("shy", "shy")):
                answer = told_apart(pattern, one, other)
                if answer[0] == "same":
                    yield pattern, one, other, answer[1]

    def test_papers_that_lack_a_triple(self):
        looked_at = 0
        for pattern, one, other, paper in self.same_ones(ROOMS + DEEP + PATTERNS):
            for k in range(len(paper)):
                self.assertIs(lets_same(pattern, one, other, paper[:k] + paper[k + 1:]), False)
                looked_at += 1
            self.assertIs(lets_same(pattern, one, other, []), False)
            self.assertIs(lets_same(pattern, one, other, tuple(paper)), True)
            self.assertIs(lets_same(pattern, one, other, paper[::-1] + paper), True)
        self.assertGreater(looked_at, 500)

    def test_numbers_that_are_no_rows(self):
        for pattern, one, other, paper in self.same_ones(ROOMS[:6] + PATTERNS[5:20]):
            rows, others = len(table_of(pattern, one)), len(table_of(pattern, other))
            for triple in ((-1, 0, ()), (0, -1, ()), (rows, 0, ()), (0, others, ()), (HUGE, HUGE, ()), (-HUGE, 0, ()), (-1, -1, ())):
                self.assertIs(lets_same(pattern, one, other, paper + [triple]), False)
                self.assertIs(lets_same(pattern, one, other, [triple] + paper), False)

    def test_other_places(self):
        pattern = row(A, B)
        paper = [(0, 0, ()), (1, 1, (0,)), (2, 2, (1,))]
        self.assertIs(lets_same(pattern, "first", "long", paper), True)
        # Places that are not kept there are not looked at: more triples may stand in it, with any of them.
        for places in ((0,), (1,), (0, 1), (-1,), (5, HUGE)):
            self.assertIs(lets_same(pattern, "first", "long", paper + [(0, 0, places)]), True)
        self.assertIs(lets_same(pattern, "first", "long", paper + [(1, 1, (0, 1))]), True)
        self.assertIs(lets_same(pattern, "first", "long", paper + [(2, 2, (0, 1))]), True)
        # From what is not the same nothing comes that is.
        self.assertIs(lets_same(pattern, "first", "long", paper + [(1, 1, (1,))]), False)
        self.assertIs(lets_same(pattern, "first", "long", paper + [(2, 2, ())]), False)
        self.assertIs(lets_same(pattern, "first", "long", paper + [(2, 2, (0,))]), False)
        # Fewer or more in the place of those that are.
        self.assertIs(lets_same(pattern, "first", "long", [(0, 0, ()), (1, 1, (0, 1)), (2, 2, (1,))]), False)
        self.assertIs(lets_same(pattern, "first", "long", [(0, 0, (0,)), (1, 1, (0,)), (2, 2, (1,))]), False)

    def test_rows_that_no_text_comes_to_together(self):
        pattern = pick(row(A, B), row(B, A))
        kind, paper = told_apart(pattern, "first", "short")
        self.assertEqual(kind, "same")
        rows = range(len(table_of(pattern, "first")))
        for i in rows:
            for j in rows:
                for places in ((), (0,), (1, 3), (0, 1, 2, 3)):
                    more = paper + [(i, j, places)]
                    self.assertIs(lets_same(pattern, "first", "short", more), slow_lets(pattern, "first", "short", more))

    def test_none_where_they_are_told_apart(self):
        source = random.Random(204)
        for pattern in DEEP + ROOMS:
            for one, other in PAIRS:
                if told_apart(pattern, one, other)[0] == "apart":
                    rows, others = table_of(pattern, one), table_of(pattern, other)
                    whole = [(i, j, tuple(sorted(set(rows[i][0]) & set(others[j][0])))) for i in range(len(rows))
                             for j in range(len(others))]
                    for paper in (whole, [(0, 0, ())], [(0, 0, ())] + whole, source.sample(whole, 3) + [(0, 0, ())]):
                        self.assertIs(lets_same(pattern, one, other, paper), False)

    def test_by_the_letter(self):
        source = random.Random(205)
        answers = []
        for pattern, one, other, paper in self.same_ones(ROOMS + DEEP + PATTERNS + tuple(chance_patterns(206, 60, 4))):
            rows, others = len(table_of(pattern, one)), len(table_of(pattern, other))
            for k in range(4):
                some = [triple for triple in paper if source.random() < 0.98]
                for n in range(source.randint(0, 2)):
                    places = tuple(place for place in range(8) if source.random() < 0.6)
                    some.append((source.randrange(rows), source.randrange(others), places))
                    if source.random() < 0.5:
                        i, j, places = source.choice(paper)
                        some.append((i, j, tuple(sorted(set(places) ^ {source.randrange(6)}))))
                answers.append(lets_same(pattern, one, other, some))
                self.assertIs(answers[-1], slow_lets(pattern, one, other, some), (pattern, one, other, some))
        self.assertGreater(min(answers.count(True), answers.count(False)), 200)


class Refusals(unittest.TestCase):
    def test_no_taste_ahead_of_all_else(self):
        for pattern in (A, OVERFULL, HUGE_ONES[0], ONE_ROW_MORE):
            for thing in NO_TASTES + ("cheap",):
                for one, other in ((thing, "first"), ("first", thing), (thing, thing)):
                    with self.assertRaises(NoTaste):
                        told_apart(pattern, one, other)
                    with self.assertRaises(NoTaste):
                        lets_same(pattern, one, other, [])

    def test_too_many(self):
        for pattern in (OVERFULL, OVERFULL_BLANKS, ONE_ROW_MORE) + HUGE_ONES:
            for one, other in PAIRS + (("long", "long"),):
                with self.assertRaises(TooMany):
                    told_apart(pattern, one, other)
                with self.assertRaises(TooMany):
                    lets_same(pattern, one, other, [(-1, 0, ())])
        self.assertEqual(len(told_apart(FOUR_HUNDRED, "first", "long")[1]), 400)
        self.assertEqual(told_apart(FULL, "first", "long")[0], "same")


class Own(unittest.TestCase):
    def test_nothing_is_changed_or_kept(self):
        for pattern in ROOMS[:6] + (NONE, AB, held("x", price(1, row(again(A), B)))):
            answer = told_apart(pattern, "long", "long")
            paper = list(answer[1])
            lets_same(pattern, "long", "long", answer[1])
            self.assertEqual(answer[1], paper)
            answer[1].append((0, 0, (3,)))
            self.assertEqual(told_apart(pattern, "long", "long"), ("same", paper))


if __name__ == "__main__":
    unittest.main()
