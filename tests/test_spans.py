"""7.3 and the rows ahead of 7.1: papers of long and short."""

import random
import unittest

from tastegrove.errors import TooMany
from tastegrove.patterns import makes_of, parts_of
from tastegrove.spans import are_spans_of_tree, spans_of
from tastegrove.walks import walked
from tests.samples import (A, AB, B, BLANK, HUGE_ONES, NONE, OVERFULL, PATTERNS, SIXTY, again, chance_patterns, held,
                           pick, price, row, slow_trees, texts_up_to, trees_from)
from tests.test_leans import DEEP
from tests.test_tastes import inner_of, order, slow_length

HUGE = 10 ** 40
BOTH = ("long", "short")
TA = ("sign", "a")


# The judge by the letter, over a set of triples.
class Slow:
    def __init__(self, pattern, text, rows):
        self.makes, self.parts, self.text = makes_of(pattern), parts_of(pattern), text
        self.rows = {(n, i, j) for n, i, j in rows if 0 <= n < len(self.makes) and 0 <= i <= j <= len(text)}

    def leads(self, parts, i, j):
        if not parts:
            return i == j
        return any(self.leads(parts[1:], e, j) for e in range(i, j + 1) if (parts[0], i, e) in self.rows)

    def turns_lead(self, part, i, j):
        return i == j or any(self.turns_lead(part, e, j) for e in range(i + 1, j + 1) if (part, i, e) in self.rows)

    def follows(self, n, i, j):
        make, parts = self.makes[n], self.parts[n]
        if make[0] == "none":
            return False
        if make[0] == "blank":
            return i == j
        if make[0] == "sign":
            return j == i + 1 and self.text[i] in make[1]
        if make[0] == "again":
            return self.turns_lead(parts[0], i, j)
        if make[0] == "row":
            return self.leads(parts, i, j)
        return any((part, i, j) in self.rows for part in parts)

    def is_shut(self):
        whole = len(self.text) + 1
        return all((n, i, j) in self.rows for n in range(len(self.makes)) for i in range(whole)
                   for j in range(i, whole) if self.follows(n, i, j))

    def lets(self, taste, tree, n, at):
        end, place, parts = at + slow_length(tree), at, self.parts[n]
        if tree[0] == "pick" and any((part, at, end) in self.rows for part in parts[:tree[1]]):
            return False
        for k, inner in enumerate(inner_of(tree)):
            part = parts[{"pick": tree[1], "again": 0}.get(tree[0], k)]
            to = place + slow_length(inner)
            for e in range(place, len(self.text) + 1):
                ahead = (part, place, e) in self.rows and (e > to if taste == "long" else e < to)
                if tree[0] == "row" and ahead and self.leads(parts[k + 1:], e, end):
                    return False
                if tree[0] == "again" and ahead and e > place and self.turns_lead(part, e, end):
                    return False
            if not self.lets(taste, inner, part, place):
                return False
            place = to
        return True


def slow_judge(pattern, taste, text, tree, rows):
    slow = Slow(pattern, text, rows)
    return slow.is_shut() and slow.lets(taste, tree, 0, 0)


def judge(pattern, taste, text, tree, rows):
    return are_spans_of_tree(pattern, taste, text, tree, ("spans", rows))


def all_triples(pattern, text):
    whole = len(text) + 1
    return [(n, i, j) for n in range(len(makes_of(pattern))) for i in range(whole) for j in range(i, whole)]


class Papers(unittest.TestCase):
    def test_what_is_told(self):
        self.assertEqual(spans_of(A, ""), ("spans", []))
        self.assertEqual(spans_of(again(A), ""), ("spans", [(0, 0, 0)]))
        self.assertEqual(spans_of(row(A, pick(BLANK, A)), "aa"), ("spans", [
            (0, 0, 1), (0, 0, 2), (0, 1, 2), (1, 0, 1), (1, 1, 2), (2, 0, 0), (2, 0, 1), (2, 1, 1), (2, 1, 2), (2, 2, 2),
            (3, 0, 0), (3, 1, 1), (3, 2, 2), (4, 0, 1), (4, 1, 2)]))

    def test_those_of_all_trees_of_all_stretches(self):
        for pattern in PATTERNS + DEEP:
            for text in ("", "a", "ab", "aab"):
                rows = {(n, i, end) for n, make in enumerate(makes_of(pattern)) for i in range(len(text) + 1)
                        for tree, end in trees_from(make, text, i)}
                self.assertEqual(spans_of(pattern, text), ("spans", sorted(rows)))

    def test_of_told_trees(self):
        for pattern in PATTERNS + DEEP + tuple(chance_patterns(131, 200, 4)):
            for text in texts_up_to("ab", 4):
                trees = slow_trees(pattern, text)
                paper = spans_of(pattern, text)
                for taste in BOTH:
                    best = min(trees, key=lambda one: order(taste, one), default=None)
                    for tree in trees[:6] + [tree for tree in (best,) if tree is not None]:
                        self.assertIs(are_spans_of_tree(pattern, taste, text, tree, paper), tree == best)

    def test_many_signs(self):
        for pattern in DEEP:
            for text in (SIXTY, "aab" * 20, "a" * 59 + "b"):
                for taste in BOTH:
                    tree = walked(pattern, taste, text)
                    if tree is not None:
                        self.assertIs(are_spans_of_tree(pattern, taste, text, tree, spans_of(pattern, text)), True)

    def test_too_many(self):
        for pattern in (OVERFULL,) + HUGE_ONES:
            for ask in (lambda: spans_of(pattern, ""),
                        lambda: are_spans_of_tree(pattern, "long", "", ("blank",), ("spans", []))):
                with self.assertRaises(TooMany):
                    ask()


class Judge(unittest.TestCase):
    def test_each_that_is_left_out(self):
        for pattern in PATTERNS + DEEP:
            for text in ("", "a", "aab"):
                rows = spans_of(pattern, text)[1]
                for taste in BOTH:
                    tree = walked(pattern, taste, text)
                    if tree is not None:
                        for k in range(len(rows)):
                            self.assertIs(judge(pattern, taste, text, tree, rows[:k] + rows[k + 1:]), False)
                            self.assertIs(judge(pattern, taste, text, tree, rows[k:] + rows[:k] + rows[:1]), True)

    def test_turns_without_signs(self):
        # No turn is so, but the paper may say it of a part: it counts neither for shut ones nor by short.
        pattern, rows = again(A), [(0, 0, 0), (0, 0, 1), (0, 1, 1), (1, 0, 1)]
        for more in ([], [(1, 0, 0)], [(1, 1, 1)], [(1, 0, 0), (1, 1, 1)]):
            for taste in BOTH:
                self.assertIs(judge(pattern, taste, "a", ("again", (TA,)), rows + more), True)

    def test_chains_are_of_the_part_alone(self):
        # From (0, 1, 2), of the again itself, nothing follows of (0, 0, 2).
        pattern = again(row(A, B))
        rows = spans_of(pattern, "ab")[1]
        self.assertIs(judge(pattern, "long", "ab", ("again", (("row", (TA, ("sign", "b"))),)), rows + [(0, 0, 1)]), True)
        rows = spans_of(again(A), "aa")[1]
        self.assertIs(judge(again(A), "long", "aa", ("again", (TA, TA)), rows + [(1, 0, 2)]), False)
        self.assertIs(judge(again(A), "short", "aa", ("again", (TA, TA)), rows + [(1, 0, 2)]), True)

    def test_from_where_the_parts_behind_do_not_lead_on(self):
        pattern = row(again(A), A)
        tree = ("row", (("again", (TA,)), TA))
        rows = spans_of(pattern, "aa")[1]
        self.assertIs(judge(pattern, "long", "aa", tree, rows), True)
        self.assertIs(judge(pattern, "short", "aa", tree, rows), True)
        # The longer first part is there already: what is put in leads on from where it ends. Likewise of the shorter.
        for more, by_long, by_short in (([(2, 2, 2)], True, True), ([(3, 2, 2)], False, False),
                                        ([(3, 2, 2), (0, 2, 2)], False, True), ([(3, 0, 2)], True, False),
                                        ([(0, 0, 0)], True, True), ([(3, 0, 0)], False, False)):
            self.assertIs(judge(pattern, "long", "aa", tree, rows + more), by_long, more)
            self.assertIs(judge(pattern, "short", "aa", tree, rows + more), by_short, more)

    def test_triples_of_other_numbers_count_for_nothing(self):
        for pattern in PATTERNS + DEEP:
            for text in ("", "a", "aab"):
                rows = spans_of(pattern, text)[1]
                count = len(makes_of(pattern))
                junk = [(-1, 0, 0), (count, 0, 0), (HUGE, 0, 1), (-HUGE, 0, 0), (0, -1, 0), (0, 1, 0), (0, -2, -1),
                        (0, 0, len(text) + 1), (0, len(text) + 1, len(text) + 1), (0, HUGE, HUGE), (0, -HUGE, HUGE)]
                junk += [(n, i, j) for n in range(count) for i, j in ((-1, 0), (-1, len(text)), (1, 0), (0, len(text) + 1))]
                for taste in BOTH:
                    tree = walked(pattern, taste, text)
                    if tree is not None:
                        self.assertIs(judge(pattern, taste, text, tree, junk + rows + junk), True)
                        self.assertIs(judge(pattern, taste, text, tree, tuple(junk + rows)), True)
                        self.assertIs(judge(pattern, taste, text, tree, junk), False)

    def test_by_the_letter_with_one_triple_put_in_or_left_out(self):
        answers = []
        patterns = [pattern for pattern in DEEP + PATTERNS + tuple(chance_patterns(132, 60, 3)) if pattern[0] != "sign"]
        for pattern in patterns:
            for text in ("", "a", "aa", "aab"):
                rows = spans_of(pattern, text)[1]
                trees = slow_trees(pattern, text)
                for taste in BOTH:
                    best = walked(pattern, taste, text)
                    for other in all_triples(pattern, text) if best is not None else []:
                        paper = [one for one in rows if one != other] if other in rows else rows + [other]
                        for tree in [best] + [tree for tree in trees[:2] if tree != best]:
                            answers.append(judge(pattern, taste, text, tree, paper))
                            self.assertIs(answers[-1], slow_judge(pattern, taste, text, tree, paper), (tree, other))
                            # Whatever is let by holds.
                            if answers[-1]:
                                self.assertEqual(tree, best)
        self.assertGreater(min(answers.count(True), answers.count(False)), 1000)

    # Papers are shut up again, behind triples put in by chance, so that more of them are let by.
    def test_by_the_letter_with_triples_by_chance(self):
        source = random.Random(133)
        answers = []
        for pattern in DEEP + (row(held("x", again(A)), price(2, again(AB))), again(pick(A, row(A, NONE), row(A, AB)))):
            for text in ("aa", "aaa", "aab"):
                best = {taste: walked(pattern, taste, text) for taste in BOTH}
                for k in range(12):
                    rows = set(spans_of(pattern, text)[1])
                    rows.update(source.sample(all_triples(pattern, text), source.randint(1, 3)))
                    for n in range(len(makes_of(pattern)) - 1, -1, -1):
                        slow = Slow(pattern, text, rows)
                        rows |= {triple for triple in all_triples(pattern, text) if triple[0] == n and slow.follows(*triple)}
                    paper = sorted(rows)
                    for taste in BOTH:
                        for tree in slow_trees(pattern, text)[:2] + [best[taste]] * (best[taste] is not None):
                            answers.append(judge(pattern, taste, text, tree, paper))
                            self.assertIs(answers[-1], slow_judge(pattern, taste, text, tree, paper))
                            if answers[-1]:
                                self.assertEqual(tree, best[taste])
        self.assertGreater(min(answers.count(True), answers.count(False)), 200)

    def test_nothing_is_changed_or_kept(self):
        pattern, text = DEEP[0], "aaa"
        paper = spans_of(pattern, text)
        copy = ("spans", list(paper[1]))
        for taste in BOTH:
            are_spans_of_tree(pattern, taste, text, walked(pattern, taste, text), paper)
        self.assertEqual(paper, copy)
        paper[1].clear()
        self.assertEqual(spans_of(pattern, text), copy)


if __name__ == "__main__":
    unittest.main()
