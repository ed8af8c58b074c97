"""13.1 to 13.3 and 0.4: whether the trees of ever longer texts double, rise or are bounded, and the papers of that."""

import itertools
import random
import unittest

from tastegrove.counts import many
from tastegrove.errors import TooMany
from tastegrove.growth import growth_of, lets_bounded
from tastegrove.places import ends, places_of, reached, starts, steps
from tests.samples import (A, AB, B, BLANK, FULL, FULL_BLANKS, HUGE_BUT_WITHOUT_TEXTS, HUGE_ONES, NONE, OVERFULL,
                           OVERFULL_BLANKS, PATTERNS, again, chance_patterns, held, pick, price, row, sign_makes, texts_up_to)
from tests.test_leans import DEEP
from tests.test_twos import SINGLE

HUGE = 10 ** 40
C = ("sign", "c")
SIX_AGAINS = row(*[again(A)] * 6)
DOUBLING = (
    again(pick(A, A)),
    again(pick(A, row(A, A))),
    again(row(A, pick(BLANK, BLANK))),
    again(row(A, again(A))),
    row(C, again(row(again(A), A)), B),
    again(pick(row(A, B), row(A, pick(B, B)))),
    row(again(A), again(row(B, pick(A, ("sign", "ac"))))),
    again(row(pick(A, AB), B, pick(row(C, C), C))),
    row(B, again(pick(row(A, A), row(A, A, A)))),
    row(again(A), again(A), again(pick(AB, B))),
)
RISING = (
    row(again(A), again(A)),
    row(again(A), A, again(A)),
    row(B, again(A), again(AB), C),
    row(again(row(A, B)), again(row(A, B))),
    row(again(row(A, A)), again(row(A, A, A))),
    SIX_AGAINS,
    row(again(AB), C, again(B), again(B)),
    pick(row(again(A), B, again(A)), row(B, again(AB), again(B))),
    row(again(row(A, B)), A, again(row(B, A))),
)
BOUNDED = (
    NONE,
    BLANK,
    A,
    row(A, B),
    pick(A, A, A),
    pick(again(A), again(A)),
    row(pick(A, BLANK), pick(A, BLANK), pick(BLANK, A)),
    row(again(A), B, again(A)),
    again(row(A, again(B))),
    row(pick(BLANK, BLANK, BLANK), again(AB)),
    row(pick(again(A), again(A)), B, pick(again(A), again(A))),
    row(pick(A, row(A, A)), again(B)),
    row(again(A), NONE),
    pick(row(again(A), again(A), NONE), again(row(A, B))),
    row(again(row(A, A)), pick(A, BLANK), pick(BLANK, BLANK)),
)


class Known:
    def __init__(self, pattern):
        self.signs = places_of(pattern)
        self.steps = [steps(pattern, place) for place in range(len(self.signs))]
        self.ends = [ends(pattern, place) for place in range(len(self.signs))]
        self.starts = starts(pattern)
        self.reached = reached(pattern)

    # By the places come to from one by the text, how many ways there are.
    def ways(self, place, text):
        ways = {place: 1}
        for sign in text:
            further = {}
            for at in ways:
                for step in self.steps[at]:
                    if sign in self.signs[step[0]]:
                        further[step[0]] = further.get(step[0], 0) + ways[at]
            ways = further
        return ways

    def have_one(self, *places):
        return any(all(sign in self.signs[place] for place in places) for sign in self.signs[places[0]])


# What 13.1 tells, as far as the texts go.
def slow_growth(pattern, texts):
    known = Known(pattern)
    ways = {(place, text): known.ways(place, text) for place in known.reached for text in texts}
    if any(ways[(place, text)].get(place, 0) > 1 for place, text in ways):
        return "doubling"
    for p, q in itertools.permutations(known.reached, 2):
        if any(p in ways[(p, text)] and q in ways[(p, text)] and q in ways[(q, text)] for text in texts):
            return "rising"
    return "bounded"


# By the letter of 13.3.
def slow_lets(pattern, pairs, threes):
    known = Known(pattern)
    places = known.reached
    pairs = {one for one in pairs if all(number in places for number in one)}
    threes = {one for one in threes if all(number in places for number in one) and one[0] != one[1]}

    def behind(*ahead):
        for some in itertools.product(*[known.steps[place] for place in ahead]):
            if known.have_one(*[step[0] for step in some]):
                yield tuple(step[0] for step in some)

    for a in places:
        led = [a]
        for c in led:
            led += sorted({step[0] for step in known.steps[c]} - set(led))
        for c in led:
            for one, other in itertools.permutations(known.steps[c], 2):
                if known.have_one(one[0], other[0]) and (a, one[0], other[0]) not in pairs:
                    return False
        if (a, a, a) in pairs:
            return False
    for a, p, q in pairs:
        if any((a,) + some not in pairs for some in behind(p, q)):
            return False
    for a, b in itertools.permutations(places, 2):
        if (a, b, a, b, b) in threes or any((a, b) + some not in threes for some in behind(a, a, b)):
            return False
    return all((a, b) + some in threes for a, b, p, q, r in threes for some in behind(p, q, r))


# The least pairs and threes of which nothing may be left out.
def least_paper(pattern):
    kind, pairs, threes = growth_of(pattern)
    for listed in (pairs, threes):
        for one in list(listed):
            listed.remove(one)
            if not lets_bounded(pattern, pairs, threes):
                listed.append(one)
    return pairs, threes


class GrowthOf(unittest.TestCase):
    def check(self, pattern, answer):
        self.assertIs(type(answer), tuple)
        if answer[0] == "bounded":
            kind, pairs, threes = answer
            self.assertEqual((type(pairs), type(threes)), (list, list))
            self.assertTrue(all(type(one) is tuple and len(one) == 3 for one in pairs))
            self.assertTrue(all(type(one) is tuple and len(one) == 5 for one in threes))
            self.assertIs(lets_bounded(pattern, pairs, threes), True)
            return
        kind, u, v, w = answer
        for n in range(1, 5):
            count = many(pattern, u + v * n + w)
            self.assertGreaterEqual(count, 2 ** n if kind == "doubling" else n)
        places = reached(pattern)
        for paper in (([], []), (list(itertools.product(places, repeat=3)), list(itertools.product(places, repeat=5)))):
            self.assertIs(lets_bounded(pattern, *paper), False)

    def test_of_each_kind(self):
        for kind, patterns in (("doubling", DOUBLING), ("rising", RISING), ("bounded", BOUNDED)):
            for pattern in patterns:
                answer = growth_of(pattern)
                self.assertEqual(answer[0], kind, pattern)
                self.check(pattern, answer)

    def test_by_the_letter(self):
        said = []
        for pattern in PATTERNS + DEEP + SINGLE + tuple(chance_patterns(221, 400, 4)):
            if sign_makes(pattern) > 6:
                continue
            answer = growth_of(pattern)
            self.check(pattern, answer)
            slow = slow_growth(pattern, texts_up_to("abc" if pattern in SINGLE else "ab", 5)[1:])
            self.assertEqual(answer[0], slow, pattern)
            said.append(slow)
        self.assertGreater(min(said.count(kind) for kind in ("doubling", "rising", "bounded")), 8)

    def test_sign_makes(self):
        for wrap in (lambda part: part, lambda part: held("x", price(1, part))):
            self.assertEqual(growth_of(wrap(row(*[A] * 6)))[0], "bounded")
            self.assertEqual(growth_of(wrap(SIX_AGAINS))[0], "rising")
            self.assertEqual(growth_of(wrap(again(pick(*[A] * 6))))[0], "doubling")
            for pattern in (row(A, row(*[A] * 6)), row(B, SIX_AGAINS), again(pick(pick(*[A] * 6), A)), pick(row(*[A] * 6), row(A, NONE))):
                with self.assertRaises(TooMany):
                    growth_of(wrap(pattern))
                with self.assertRaises(TooMany):
                    lets_bounded(wrap(pattern), [], [])

    def test_too_many(self):
        for pattern in (OVERFULL, OVERFULL_BLANKS, FULL) + HUGE_ONES:
            with self.assertRaises(TooMany):
                growth_of(pattern)
            with self.assertRaises(TooMany):
                lets_bounded(pattern, [], [])
        self.assertEqual(growth_of(FULL_BLANKS), ("bounded", [], []))
        self.assertEqual(growth_of(HUGE_BUT_WITHOUT_TEXTS)[0], "bounded")

    def test_many_steps_of_few_places(self):
        picks = pick(*[BLANK] * 6)
        pattern = row(again(row(A, picks, pick(*[BLANK] * 5), pick(*[BLANK] * 4))), BLANK)
        answer = growth_of(pattern)
        self.assertEqual(answer[0], "doubling")
        self.check(pattern, answer)
        pattern = row(A, picks, B, picks, C, pick(*[BLANK] * 4))
        answer = growth_of(pattern)
        self.assertEqual(answer[0], "bounded")
        self.check(pattern, answer)

    def test_loops_that_come_together_late(self):
        # Two turns and three in either order, and the last one once more.
        pattern = again(pick(row(A, A), row(A, A, A)))
        answer = growth_of(pattern)
        self.assertEqual(answer[0], "doubling")
        self.assertGreater(len(answer[2]), 6)
        self.check(pattern, answer)
        answer = growth_of(row(again(row(A, A)), again(row(A, A, A))))
        self.assertEqual((answer[0], len(answer[2]) % 6), ("rising", 0))


class LetsBounded(unittest.TestCase):
    def test_papers_that_lack_one_thing(self):
        looked_at = 0
        for pattern in BOUNDED + SINGLE:
            if sign_makes(pattern) > 6 or growth_of(pattern)[0] != "bounded":
                continue
            pairs, threes = least_paper(pattern)
            self.assertIs(lets_bounded(pattern, pairs, threes), True)
            self.assertIs(lets_bounded(pattern, tuple(pairs), tuple(threes)), True)
            self.assertIs(lets_bounded(pattern, pairs[::-1] + pairs, threes + threes[::-1]), True)
            for k in range(len(pairs)):
                self.assertIs(lets_bounded(pattern, pairs[:k] + pairs[k + 1:], threes), False)
                looked_at += 1
            for k in range(len(threes)):
                self.assertIs(lets_bounded(pattern, pairs, threes[:k] + threes[k + 1:]), False)
                looked_at += 1
        self.assertGreater(looked_at, 40)

    def test_what_they_may_not_hold(self):
        for pattern in BOUNDED:
            kind, pairs, threes = growth_of(pattern)
            for a in reached(pattern):
                self.assertIs(lets_bounded(pattern, pairs + [(a, a, a)], threes), False)
                for b in reached(pattern):
                    if a != b:
                        self.assertIs(lets_bounded(pattern, pairs, threes + [(a, b, a, b, b)]), False)

    def test_other_numbers_count_for_nothing(self):
        for pattern in BOUNDED:
            kind, pairs, threes = growth_of(pattern)
            places = reached(pattern)
            others = [place for place in (-1, 6, HUGE, -HUGE, 0, 1, 2) if place not in places]
            more = [(one, one, one) for one in others] + [(one, 0, 0) for one in others] + [(0, 0, one) for one in others]
            fives = [(0, one, 0, one, one) for one in others] + [(one, 0, one, 0, 0) for one in others]
            fives += [(0, 1, 0, 1, one) for one in others] + [(0, 0, 0, 0, 0), (1, 1, 1, 1, 1), (0, 0, 0, 1, 0)]
            self.assertIs(lets_bounded(pattern, pairs + more, threes + fives), True)
            self.assertIs(lets_bounded(pattern, more, fives), slow_lets(pattern, [], []))

    def test_places_that_no_tree_goes_by(self):
        # Of the agains within the row with none nothing is asked, and nothing said of them counts.
        pattern = pick(row(again(A), again(A), NONE), again(row(A, B)))
        self.assertEqual(reached(pattern), [2, 3])
        self.assertIs(lets_bounded(pattern, [(0, 0, 0), (2, 0, 0)], [(0, 1, 0, 1, 1), (2, 3, 0, 3, 3)] + growth_of(pattern)[2]), True)

    def test_by_the_letter(self):
        source = random.Random(222)
        answers = []
        for pattern in BOUNDED + RISING[:4] + DOUBLING[:4] + SINGLE + tuple(chance_patterns(223, 120, 4)):
            if sign_makes(pattern) > 6:
                continue
            count = sign_makes(pattern)
            told = growth_of(pattern)
            base = told[1:] if told[0] == "bounded" else ([], [])
            for k in range(8):
                pairs = [one for one in base[0] if source.random() < 0.97]
                threes = [one for one in base[1] if source.random() < 0.98]
                for n in range(source.randint(0, 2)):
                    pairs.append(tuple(source.randint(-1, count) for j in range(3)))
                    threes.append(tuple(source.randint(-1, count) for j in range(5)))
                answer = lets_bounded(pattern, pairs, threes)
                self.assertIs(answer, slow_lets(pattern, pairs, threes), (pattern, pairs, threes))
                self.assertFalse(answer and told[0] != "bounded")
                answers.append(answer)
        self.assertGreater(min(answers.count(True), answers.count(False)), 150)


class Own(unittest.TestCase):
    def test_nothing_is_changed_or_kept(self):
        for pattern in BOUNDED:
            kind, pairs, threes = growth_of(pattern)
            kept = (list(pairs), list(threes))
            lets_bounded(pattern, pairs, threes)
            self.assertEqual((pairs, threes), kept)
            pairs.append((0, 0, 0))
            threes.clear()
            self.assertEqual(growth_of(pattern)[1:], kept)


if __name__ == "__main__":
    unittest.main()
