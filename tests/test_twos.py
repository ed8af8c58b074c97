"""8.1, 8.2 and 0.4: the least text with two trees, or a paper that no text has two, and which papers are let by."""

import random
import unittest

from tastegrove.counts import many
from tastegrove.errors import TooMany
from tastegrove.numbers import tree_at
from tastegrove.patterns import is_pattern
from tastegrove.twos import lets_one, two_trees
from tests.samples import (A, AB, B, BLANK, FULL, FULL_BLANKS, HUGE_BUT_WITHOUT_TEXTS, HUGE_ONES, NONE, OVERFULL,
                           OVERFULL_BLANKS, PATTERNS, again, chance_patterns, held, pick, price, row, sign_makes,
                           slow_trees, texts_up_to)
from tests.test_leans import DEEP
from tests.test_rests import Known

HUGE = 10 ** 40
C = ("sign", "c")
# No text of these has two trees.
SINGLE = (
    row(again(A), B, again(A)),
    again(row(A, again(B))),
    again(pick(A, B)),
    again(pick(A, row(B, A), row(B, B))),
    row(again(row(A, A)), pick(A, BLANK), again(B)),
    row(again(pick(A, B)), C, again(pick(A, B))),
    pick(row(A, again(A)), row(B, again(AB)), BLANK),
    again(row(A, again(row(B, again(C))))),
    held("x", again(row(price(1, A), held("y", again(B))))),
    row(again(row(A, B)), again(row(A, A))),
    pick(row(again(A), NONE), again(A)),
    again(pick(row(A, A, A), row(A, A, B), row(A, B), B)),
    pick(row(again(row(A, A)), B), row(A, again(row(A, A)), B)),
    pick(row(again(row(A, A, A)), B), row(A, again(row(A, A, A)), B), row(A, A, again(row(A, A, A)), B)),
)
# These two have two trees of some text, but not of a short one.
LATE = pick(row(again(row(A, A, A)), B), row(A, again(row(A, A, A, A, A)), B))
LATER = pick(row(A, again(row(A, A, A, A)), AB), row(again(row(A, A, A)), B))


def joined(one, other):
    return any(sign in other for sign in one)


# By the letter of 8.2.
def slow_lets(pattern, paper):
    known = Known(pattern)
    count = len(known.signs)
    if len(known.blanks) > 1 or any(len(ends) > 1 for ends in known.ends):
        return False

    def has(one, other):
        p, q = one[0], other[0]
        return not joined(known.signs[p], known.signs[q]) or (min(p, q), max(p, q)) in paper

    for listed in [known.starts] + known.steps:
        if not all(has(one, other) for one in listed for other in listed if one != other):
            return False
    for p, q in paper:
        if not (0 <= p < count and 0 <= q < count and p <= q) or (known.ends[p] and known.ends[q]):
            return False
        if not all(has(one, other) for one in known.steps[p] for other in known.steps[q]):
            return False
    return True


def slow_two(pattern, texts):
    for text in texts:
        trees = slow_trees(pattern, text)
        if len(trees) > 1:
            return text
    return None


class TwoTrees(unittest.TestCase):
    def test_the_least_text(self):
        said = []
        for pattern in PATTERNS + DEEP + SINGLE + tuple(chance_patterns(151, 400, 4)):
            signs = "abc" if pattern in SINGLE else "ab"
            answer = two_trees(pattern)
            least = slow_two(pattern, texts_up_to(signs, 5))
            self.assertIs(type(answer), tuple)
            said.append(answer[0])
            if least is not None:
                self.assertEqual(answer, ("two", least, tree_at(pattern, least, 0), tree_at(pattern, least, 1)))
                # Nor is any paper let by.
                places = range(sign_makes(pattern))
                for paper in ([], [(p, q) for p in places for q in places if p <= q]):
                    self.assertIs(lets_one(pattern, paper), False)
            elif answer[0] == "two":
                self.assertGreater(len(answer[1]), 5)
                self.assertGreater(many(pattern, answer[1]), 1)
            else:
                self.assertEqual((len(answer), answer[0], type(answer[1])), (2, "one", list))
                self.assertIs(lets_one(pattern, answer[1]), True)
        self.assertGreater(min(said.count("one"), said.count("two")), 100)

    def test_by_length_and_then_by_signs(self):
        # The longer one has lesser signs; of one length another sign comes first than the places are written.
        self.assertEqual(two_trees(pick(row(A, A), B, row(A, A), B))[1], "b")
        self.assertEqual(two_trees(pick(("sign", "xyz"), ("sign", "bz"), ("sign", " b")))[1], "b")
        self.assertEqual(two_trees(pick(("sign", "~"), ("sign", "Z~"), ("sign", "Zz")))[1], "Z")
        # Two ways of one length: by each place the least sign alone would mislead.
        pattern = pick(row(AB, ("sign", "bc")), row(B, ("sign", "ac")), row(A, ("sign", "cd")), row(B, AB))
        self.assertIs(is_pattern(pattern), True)
        self.assertEqual(two_trees(pattern)[1], "ac")
        pattern = row(pick(row(AB, C), row(AB, B), A), pick(B, row(C, B)), pick(BLANK, B))
        self.assertEqual(two_trees(pattern)[1], "abb")
        self.assertEqual(slow_two(pattern, texts_up_to("abc", 5)), "abb")

    def test_which_of_two_ways_is_the_lesser(self):
        # What is found first for one sign is not to go ahead of what is found later for a lesser text.
        source = random.Random(152)
        signs = ["a", "b", "ab", "ac", "bc", "c", "abc"]
        for k in range(300):
            parts = [row(*[("sign", source.choice(signs)) for j in range(3)]) for n in range(source.randint(2, 5))]
            answer = two_trees(pick(*parts))
            least = slow_two(pick(*parts), texts_up_to("abc", 3))
            self.assertEqual(answer[0], "one" if least is None else "two")
            if least is not None:
                self.assertEqual(answer[1], least)

    def test_blanks(self):
        pattern = pick(A, BLANK, held("x", BLANK))
        self.assertEqual(two_trees(pattern), ("two", "", ("pick", 1, BLANK), ("pick", 2, ("held", "x", BLANK))))
        self.assertIs(lets_one(pattern, []), False)
        self.assertEqual(two_trees(FULL_BLANKS)[:2], ("two", ""))
        self.assertEqual(two_trees(pick(BLANK, again(A)))[:2], ("two", ""))

    def test_two_ends_of_one_place(self):
        pattern = again(row(B, A, pick(BLANK, BLANK)))
        answer = two_trees(pattern)
        self.assertEqual(answer[:2], ("two", "ba"))
        self.assertEqual([answer[k] for k in (2, 3)], slow_trees(pattern, "ba"))
        self.assertIs(lets_one(pattern, []), False)
        self.assertIs(lets_one(pattern, [(0, 0), (1, 1)]), False)
        pattern = row(A, pick(BLANK, BLANK))
        self.assertIs(lets_one(pattern, []), False)

    def test_two_steps_to_one_place(self):
        pattern = row(A, pick(BLANK, BLANK), B)
        self.assertEqual(two_trees(pattern)[:2], ("two", "ab"))
        self.assertIs(lets_one(pattern, [(1, 1)]), False)
        pattern = row(pick(BLANK, BLANK), A, B)
        self.assertEqual(two_trees(pattern)[:2], ("two", "ab"))
        self.assertIs(lets_one(pattern, [(0, 0)]), False)
        self.assertIs(lets_one(pattern, [(0, 0), (1, 1)]), False)

    def test_told_only_after_many_signs(self):
        for pattern, least in ((LATE, "a" * 6 + "b"), (LATER, slow_two(LATER, ["a" * k + "b" for k in range(14)]))):
            self.assertEqual(two_trees(pattern)[:2], ("two", least))
        pattern = pick(row(again(row(A, A, A, A, A)), B), row(A, again(row(*[A] * 6)), B))
        self.assertEqual(two_trees(pattern)[:2], ("two", "a" * 25 + "b"))
        seven, eleven = row(A, A, A, A, A, row(A, A)), row(A, A, A, A, A, row(*[A] * 6))
        pattern = pick(row(again(seven), B), row(A, A, again(eleven), B))
        self.assertIs(is_pattern(pattern), True)
        answer = two_trees(pattern)
        self.assertEqual(answer[:2], ("two", "a" * 35 + "b"))
        self.assertEqual(answer[2:], (tree_at(pattern, answer[1], 0), tree_at(pattern, answer[1], 1)))
        pattern = pick(row(again(eleven), B), row(A, again(row(eleven, A, A)), B))
        answer = two_trees(pattern)
        self.assertEqual(answer[:2], ("two", "a" * 66 + "b"))
        self.assertEqual(answer[2][1], 0)
        self.assertEqual(answer[3][1], 1)

    def test_none_of_its_texts(self):
        for pattern in (NONE, BLANK, A, row(A, NONE), again(NONE), HUGE_BUT_WITHOUT_TEXTS):
            self.assertEqual(two_trees(pattern), ("one", []))
            self.assertIs(lets_one(pattern, []), True)

    def test_too_many(self):
        for pattern in (OVERFULL, OVERFULL_BLANKS) + HUGE_ONES:
            with self.assertRaises(TooMany):
                two_trees(pattern)
            with self.assertRaises(TooMany):
                lets_one(pattern, [])
            with self.assertRaises(TooMany):
                lets_one(pattern, [(-1, HUGE)])
        self.assertEqual(two_trees(FULL)[0], "two")


class LetsOne(unittest.TestCase):
    def test_papers_that_lack_a_pair(self):
        for pattern in SINGLE:
            answer, paper = two_trees(pattern)
            self.assertEqual(answer, "one")
            for k in range(len(paper)):
                self.assertIs(lets_one(pattern, paper[:k] + paper[k + 1:]), False)
            self.assertIs(lets_one(pattern, tuple(paper)), True)
            self.assertIs(lets_one(pattern, paper + paper), True)
            self.assertIs(lets_one(pattern, paper[::-1]), True)
        self.assertGreater(max(len(two_trees(pattern)[1]) for pattern in SINGLE), 4)

    def test_pairs_that_are_none(self):
        for pattern in SINGLE:
            paper = two_trees(pattern)[1]
            count = sign_makes(pattern)
            for pair in ((-1, 0), (0, -1), (-1, -1), (0, count), (count, count), (-HUGE, HUGE), (0, HUGE), (HUGE, HUGE)):
                self.assertIs(lets_one(pattern, paper + [pair]), False)
                self.assertIs(lets_one(pattern, [pair] + paper), False)
            for p, q in paper:
                if p != q:
                    self.assertIs(lets_one(pattern, paper + [(q, p)]), False)
                    self.assertIs(lets_one(pattern, [(q, p) if pair == (p, q) else pair for pair in paper]), False)
            self.assertIs(lets_one(pattern, paper + [(1, 0)]), False)

    def test_a_pair_of_which_both_have_ends(self):
        pattern = row(again(A), B, again(A))
        self.assertIs(lets_one(pattern, []), True)
        self.assertIs(lets_one(pattern, [(0, 0)]), False)
        self.assertIs(lets_one(pattern, [(0, 0), (1, 1), (2, 2)]), False)
        # Nothing follows on a pair from whose places no two steps lead to a sign in common.
        pattern = row(pick(A, row(B, B)), C)
        self.assertIs(lets_one(pattern, []), True)
        self.assertIs(lets_one(pattern, [(0, 1)]), True)
        self.assertIs(lets_one(pattern, [(0, 2)]), False)
        self.assertIs(lets_one(pattern, [(1, 1), (2, 2)]), False)
        self.assertIs(lets_one(pattern, [(3, 3)]), False)

    def test_by_the_letter(self):
        source = random.Random(153)
        answers = []
        for pattern in SINGLE + PATTERNS + tuple(chance_patterns(154, 250, 4)):
            count = sign_makes(pattern)
            told = two_trees(pattern)
            base = told[1] if told[0] == "one" else []
            pairs = [(p, q) for p in range(count) for q in range(p, count)]
            for k in range(12):
                paper = [pair for pair in base if source.random() < 0.95]
                paper += [pair for pair in pairs if source.random() < source.choice((0, 0.1, 0.3))]
                answer = lets_one(pattern, paper)
                self.assertIs(answer, slow_lets(pattern, paper), (pattern, paper))
                self.assertFalse(answer and told[0] == "two")
                answers.append(answer)
        self.assertGreater(min(answers.count(True), answers.count(False)), 300)


class Own(unittest.TestCase):
    def test_nothing_is_changed_or_kept(self):
        for pattern in SINGLE:
            told = two_trees(pattern)
            paper = list(told[1])
            lets_one(pattern, told[1])
            self.assertEqual(told[1], paper)
            told[1].append((0, 0))
            self.assertEqual(two_trees(pattern), ("one", paper))


if __name__ == "__main__":
    unittest.main()
