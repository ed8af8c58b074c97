"""12.1 to 12.3: what is caught at each place of a text, all finds of it, and what is put for these."""

import unittest

from tastegrove.errors import NoTaste, TooMany
from tastegrove.finds import caught_at, finds_of, put_for
from tastegrove.trees import caught_of, is_tree, text_of
from tastegrove.walks import walked
from tests.samples import (A, AB, B, BLANK, FULL, HUGE_ONES, NONE, OVERFULL, OVERFULL_BLANKS, PATTERNS, SIXTY, again,
                           chance_patterns, held, pick, price, row, texts_up_to, trees_from)
from tests.test_heights import PRICED
from tests.test_leans import DEEP
from tests.test_tastes import NO_TASTES, TASTES, order

C = ("sign", "c")
TA = ("sign", "a")


# All trees of all stretches that begin there are looked at.
def slow_caught(pattern, taste, text, at):
    pairs = [(to, tree) for tree, to in trees_from(pattern, text, at)]
    return min(pairs, key=lambda pair: order(taste, pair[1]), default=None)


def slow_finds(pattern, taste, text):
    found, at = [], 0
    while at <= len(text):
        caught = slow_caught(pattern, taste, text, at)
        if caught is None:
            at += 1
        else:
            found.append((at,) + caught)
            at = caught[0] if caught[0] > at else at + 1
    return found


def slow_put(pattern, taste, text, template):
    put, at = "", 0
    for begin, to, tree in slow_finds(pattern, taste, text):
        put += text[at:begin]
        for kind, thing in template:
            if kind == "text":
                put += thing
            else:
                stretches = [(i, j) for name, i, j in caught_of(tree) if name == thing]
                put += text[begin:to][stretches[-1][0]:stretches[-1][1]] if stretches else ""
        at = to
    return put + text[at:]


class CaughtAt(unittest.TestCase):
    def test_at_every_place_against_all_trees_of_all_stretches(self):
        caught = {taste: [] for taste in TASTES}
        for pattern in PRICED + DEEP + PATTERNS + tuple(chance_patterns(211, 120, 4)):
            for text in texts_up_to("ab", 2) + ["aab", "aba", "abb", "aaaa", "abab", "aab ", "caac"]:
                for at in range(len(text) + 1):
                    for taste in TASTES:
                        pair = caught_at(pattern, taste, text, at)
                        self.assertEqual(pair, slow_caught(pattern, taste, text, at), (pattern, taste, text, at))
                        caught[taste].append(pair is not None)
        for taste in TASTES:
            self.assertGreater(min(caught[taste].count(True), caught[taste].count(False)), 1000)

    def test_by_each_taste(self):
        pattern = pick(again(A), price(2, row(A, A, A)), price(1, BLANK))
        for taste, pair in (("first", (3, ("pick", 0, ("again", (TA, TA, TA))))), ("shy", (0, ("pick", 0, ("again", ())))),
                            ("long", (3, ("pick", 0, ("again", (TA, TA, TA))))), ("short", (0, ("pick", 0, ("again", ())))),
                            ("cheap", (3, ("pick", 0, ("again", (TA, TA, TA)))))):
            self.assertEqual(caught_at(pattern, taste, "aaab", 0), pair)
        # A lesser pick is ahead by first, though it is shorter; by long the longer one; by cheap the lesser price.
        pattern = pick(price(5, A), price(4, row(A, A)), price(3, row(A, A, A)))
        for taste, k in (("first", 0), ("shy", 0), ("long", 2), ("short", 0), ("cheap", 2)):
            to, tree = caught_at(pattern, taste, "baaaa", 1)
            self.assertEqual((to, tree[1]), (k + 2, k))
            self.assertEqual(text_of(tree), "a" * (k + 1))
        # Of one price by first; of one length by the parts.
        pattern = row(again(pick(price(1, A), price(2, row(A, A)))), pick(price(3, BLANK), price(1, A), price(2, A)))
        for taste in TASTES:
            self.assertEqual(caught_at(pattern, taste, "aaaa", 0), slow_caught(pattern, taste, "aaaa", 0))

    def test_none(self):
        for taste in TASTES:
            for at in range(3):
                self.assertIsNone(caught_at(NONE, taste, "ab", at))
                self.assertIsNone(caught_at(C, taste, "ab", at))
            self.assertIsNone(caught_at(row(A, B), taste, "aab", 0))
            self.assertEqual(caught_at(row(A, B), taste, "aab", 1), (3, ("row", (TA, ("sign", "b")))))
            self.assertIsNone(caught_at(A, taste, "a", 1))
            self.assertIsNone(caught_at(A, taste, "", 0))
            self.assertEqual(caught_at(BLANK, taste, "ab", 2), (2, BLANK))

    def test_long_texts_with_very_many_trees(self):
        for pattern in (again(pick(A, price(1, row(A, A)))), row(again(A), again(AB), again(pick(A, B))), FULL):
            for taste in TASTES:
                to, tree = caught_at(pattern, taste, SIXTY, 7)
                self.assertIs(is_tree(pattern, tree), True)
                self.assertEqual(to, 7 + len(text_of(tree)))
                self.assertEqual(walked(pattern, taste, SIXTY[7:to]), tree)
                self.assertEqual(to, {"shy": 7, "short": 7}.get(taste, 60))


class FindsOf(unittest.TestCase):
    def test_all_finds(self):
        for pattern in PRICED + DEEP + PATTERNS + tuple(chance_patterns(212, 100, 4)):
            for text in texts_up_to("ab", 3) + ["abab", "aab ", "caacab", "bbaab"]:
                for taste in TASTES:
                    found = finds_of(pattern, taste, text)
                    self.assertIs(type(found), list)
                    self.assertEqual(found, slow_finds(pattern, taste, text))

    def test_without_signs_and_at_the_end(self):
        def stretches(pattern, taste, text):
            return [find[:2] for find in finds_of(pattern, taste, text)]
        for taste in TASTES:
            self.assertEqual(stretches(BLANK, taste, ""), [(0, 0)])
            self.assertEqual(stretches(BLANK, taste, "ab"), [(0, 0), (1, 1), (2, 2)])
            self.assertEqual(stretches(A, taste, "aaba"), [(0, 1), (1, 2), (3, 4)])
            self.assertEqual(stretches(A, taste, ""), [])
            self.assertEqual(stretches(NONE, taste, "aaba"), [])
            self.assertEqual(stretches(row(A, B), taste, "abaab"), [(0, 2), (3, 5)])
        self.assertEqual(stretches(again(A), "first", "aabaa"), [(0, 2), (2, 2), (3, 5), (5, 5)])
        self.assertEqual(stretches(again(A), "shy", "aab"), [(0, 0), (1, 1), (2, 2), (3, 3)])
        self.assertEqual(stretches(pick(row(A, A), BLANK), "first", "aaa"), [(0, 2), (2, 2), (3, 3)])
        self.assertEqual(stretches(pick(row(A, A), BLANK), "short", "aaa"), [(0, 0), (1, 1), (2, 2), (3, 3)])
        self.assertEqual(stretches(row(A, pick(A, BLANK)), "long", "aaa"), [(0, 2), (2, 3)])
        self.assertEqual(stretches(row(A, again(B)), "short", "abab"), [(0, 1), (2, 3)])

    def test_sixty_signs(self):
        pattern = row(A, again(pick(A, B)), C)
        text = ("ababac" + "bb") * 7 + "aaac"
        for taste in TASTES:
            found = [find[:2] for find in finds_of(pattern, taste, text)]
            self.assertEqual(found, [(8 * k, 8 * k + 6) for k in range(7)] + [(56, 60)])
        self.assertEqual(len(finds_of(FULL, "short", SIXTY)), 61)
        self.assertEqual([find[:2] for find in finds_of(FULL, "long", SIXTY)], [(0, 60), (60, 60)])


class PutFor(unittest.TestCase):
    def test_templates_of_every_form(self):
        templates = ((), (("text", ""),), (("text", "xy "),), (("name", "x"),), (("name", "none"),),
                     (("text", "<"), ("name", "x"), ("text", ">")), (("name", "y"), ("name", "x"), ("name", "x")),
                     (("text", "a"),) * 20)
        for pattern in (held("x", A), held("x", again(A)), row(held("x", A), held("y", again(B))), PATTERNS[31], PATTERNS[34],
                        again(row(held("x", A), pick(held("y", B), held("x", B)))), held("x", row(A, held("x", pick(A, BLANK)))),
                        BLANK, NONE, held("x", BLANK), pick(held("y", A), held("x", row(A, B)))) + PRICED[5:]:
            for text in texts_up_to("ab", 3) + ["abcab", "aabbab", " ab ab "]:
                for taste in TASTES:
                    for template in templates:
                        self.assertEqual(put_for(pattern, taste, text, template), slow_put(pattern, taste, text, template))

    def test_what_is_put(self):
        words = row(held("x", again(A)), B, held("y", again(A)))
        swapped = (("name", "y"), ("text", "b"), ("name", "x"))
        self.assertEqual(put_for(words, "long", "cabaac", swapped), "caabac")
        self.assertEqual(put_for(words, "long", "aabcbaa", swapped), "baacaab")
        # The last one of that name counts; of none nothing is put.
        pattern = row(held("x", A), held("x", B))
        self.assertEqual(put_for(pattern, "first", "ab-ab", (("name", "x"),)), "b-b")
        self.assertEqual(put_for(pattern, "first", "ab-ab", (("name", "z"), ("text", "!"))), "!-!")
        pattern = again(row(held("x", AB), pick(held("y", C), BLANK)))
        self.assertEqual(put_for(pattern, "long", "acbca", (("name", "x"), ("name", "y"))), "ac")
        # An inner one is told behind an outer one.
        self.assertEqual(put_for(held("x", row(A, held("x", B))), "first", "ab", (("name", "x"),)), "b")
        # One that caught the text without signs last caught that.
        self.assertEqual(put_for(row(held("x", A), held("x", again(A))), "shy", "ab", (("name", "x"), ("text", "."))), ".b")

    def test_finds_without_signs(self):
        self.assertEqual(put_for(BLANK, "first", "ab", (("text", "-"),)), "-a-b-")
        self.assertEqual(put_for(BLANK, "first", "", (("text", "-"),)), "-")
        self.assertEqual(put_for(again(A), "first", "baac", (("text", "-"),)), "-b--c-")
        self.assertEqual(put_for(again(A), "first", "baac", ()), "bc")
        self.assertEqual(put_for(A, "first", "", (("text", "-"),)), "")

    def test_long_ones(self):
        self.assertEqual(put_for(A, "cheap", SIXTY, (("text", "b" * 60),) * 20), "b" * 60 * 20 * 60)
        self.assertEqual(put_for(held("x", again(A)), "long", SIXTY, (("name", "x"),) * 20), "a" * 1200)


class Refusals(unittest.TestCase):
    def test_no_taste_ahead_of_all_else(self):
        for pattern in (A, OVERFULL, HUGE_ONES[0]):
            for thing in NO_TASTES:
                with self.assertRaises(NoTaste):
                    caught_at(pattern, thing, "a", 0)
                with self.assertRaises(NoTaste):
                    finds_of(pattern, thing, "")
                with self.assertRaises(NoTaste):
                    put_for(pattern, thing, "a", ())

    def test_too_many(self):
        for pattern in (OVERFULL, OVERFULL_BLANKS) + HUGE_ONES:
            for taste in TASTES:
                for text in ("", "c"):
                    with self.assertRaises(TooMany):
                        caught_at(pattern, taste, text, len(text))
                    with self.assertRaises(TooMany):
                        finds_of(pattern, taste, text)
                    with self.assertRaises(TooMany):
                        put_for(pattern, taste, text, ())


class Own(unittest.TestCase):
    def test_what_is_told_is_changed_and_asked_for_again(self):
        pattern = row(held("x", A), again(B))
        for taste in TASTES:
            found = finds_of(pattern, taste, "abab")
            kept = list(found)
            found.clear()
            self.assertEqual(finds_of(pattern, taste, "abab"), kept)


if __name__ == "__main__":
    unittest.main()
