"""14.1: patterns and trees written as texts, and patterns read from these."""

import itertools
import random
import unittest

from tastegrove.errors import NoText
from tastegrove.patterns import is_pattern, makes_of
from tastegrove.texts import pattern_text, read_pattern, tree_text
from tests.samples import (A, AB, B, BLANK, NONE, PATTERNS, SIGNS, again, chance_patterns, held, pick, price, row,
                           slow_trees, texts_up_to)
from tests.test_leans import DEEP

NO_TEXTS = (None, True, False, 0, 1, -1, 10 ** 40, (), ("blank",), ("sign", "a"), [], ["-"], {}, {"-": 1})
ALL = ("sign", SIGNS)
# Each sign that is written comes behind many another one.
MIXED = row(held("x", again(pick(held("ab", price(3, A)), price(0, row(again(B), A)), NONE))), BLANK,
            price(1000, row(ALL, BLANK)), again(pick(A, row(B, held("y", AB)))), pick(price(10, BLANK), held("z", BLANK), BLANK))


def deep_pattern(depth):
    pattern = A
    for k in range(depth - 1):
        pattern = [held("x", pattern), price(k, pattern)][k % 2]
    return pattern


# So many makes, 34 or more.
def pattern_of_makes(count):
    pattern = row(row(A, AB), *[row(*[A] * 5)] * 5)
    for k in range(count - 34):
        pattern = held("x", pattern)
    return pattern


class PatternText(unittest.TestCase):
    def test_each_kind(self):
        for pattern, text in (
                (NONE, "!"), (BLANK, "-"), (A, "[a]"), (AB, "[ab]"), (("sign", "]"), "[\\]]"), (("sign", "\\"), "[\\\\]"),
                (("sign", "[\\]^"), "[[\\\\\\]^]"), (("sign", " "), "[ ]"), (("sign", "!-|"), "[!-|]"), (row(A, B), "([a] [b])"),
                (row(A, BLANK, NONE), "([a] - !)"), (pick(A, B), "([a] | [b])"), (pick(BLANK, A, NONE), "(- | [a] | !)"),
                (again(A), "*[a]"), (again(row(A, again(B))), "*([a] *[b])"), (held("x", A), "x:[a]"),
                (held("abcdefgh", held("x", BLANK)), "abcdefgh:x:-"), (price(0, A), "0$[a]"), (price(1000, BLANK), "1000$-"),
                (price(10, price(7, held("x", again(A)))), "10$7$x:*[a]"),
                (pick(held("x", again(AB)), price(3, row(BLANK, ("sign", "]c")))), "(x:*[ab] | 3$(- [\\]c]))")):
            self.assertEqual(pattern_text(pattern), text)
            self.assertEqual(read_pattern(text), pattern)

    def test_all_signs(self):
        text = pattern_text(ALL)
        self.assertEqual(text, "[" + SIGNS.replace("\\", "\\\\").replace("]", "\\]") + "]")
        self.assertEqual(read_pattern(text), ALL)
        for sign in SIGNS:
            written = pattern_text(("sign", sign))
            self.assertEqual(written, "[" + ("\\" if sign in "\\]" else "") + sign + "]")
            self.assertEqual(read_pattern(written), ("sign", sign))

    def test_they_turn_one_another_about(self):
        texts = {}
        for pattern in PATTERNS + DEEP + (MIXED,) + tuple(chance_patterns(191, 600, 5)):
            if is_pattern(pattern):
                text = pattern_text(pattern)
                self.assertEqual(read_pattern(text), pattern)
                self.assertEqual(texts.setdefault(text, pattern), pattern)
        self.assertGreater(len(texts), 300)


class Bounds(unittest.TestCase):
    def refused(self, thing):
        with self.assertRaises(NoText, msg=repr(thing)):
            read_pattern(thing)

    def test_depth(self):
        self.assertEqual(read_pattern(pattern_text(deep_pattern(9))), deep_pattern(9))
        self.refused(pattern_text(deep_pattern(10)))
        for text in ("x:" * 8 + "-", "*(" * 4 + "[a] [b])" + " [a])" * 3):
            self.assertEqual(pattern_text(read_pattern(text)), text)
        self.refused("x:" * 9 + "-")
        for begin in ("*", "(", "x:", "1$", "(- ", "(- | ", "*("):
            for text in (begin * 85, begin * 85 + "[a]", (begin * 600)[:600], (begin * 300)[:599] + "-"):
                self.refused(text)

    def test_makes(self):
        for count in (34, 39, 40):
            pattern = pattern_of_makes(count)
            self.assertEqual(len(makes_of(pattern)), count)
            self.assertEqual(read_pattern(pattern_text(pattern)), pattern)
        self.refused(pattern_text(pattern_of_makes(41)))

    def test_parts(self):
        for kind in (row, pick):
            self.assertEqual(read_pattern(pattern_text(kind(*[A] * 6))), kind(*[A] * 6))
            self.refused(pattern_text(kind(*[A] * 7)))
        for text in ("()", "(-)", "([a])", "( )", "(- )", "( -)", "(-|-)", "(- |-)", "(-| -)", "(-  -)", "(- - | -)", "(- | - -)",
                     "(- |  -)", "(- | )", "(| -)", "(- -", "(- - ", "(- | ", "- -)", "- -", "- | -"):
            self.refused(text)

    def test_prices_and_names(self):
        for number in (0, 1, 9, 10, 99, 100, 999, 1000):
            self.assertEqual(read_pattern(f"{number}$-"), price(number, BLANK))
        for text in ("1001$-", "00$-", "01$-", "0001$-", "-1$-", "+1$-", "1 $-", "$-", "1$", "1-", "9" * 590 + "$-", "1_0$-", "1:-"):
            self.refused(text)
        for name in ("a", "z", "abcdefgh", "zzzzzzzz"):
            self.assertEqual(read_pattern(name + ":-"), held(name, BLANK))
        for text in ("abcdefghi:-", ":-", "A:-", "aB:-", "a1:-", "a :-", "a: -", "a:", "a", "x$-", "_:-", "a-:-"):
            self.refused(text)

    def test_signs(self):
        for text in ("[]", "[", "[a", "[ba]", "[aa]", "[a]]", "[\\a]", "[\\]", "[\\", "[a\\", "[]]", "[\\\\", "]", "[b\\]]", "[\\]\\\\]",
                     "[\\]a\\\\]"):
            self.refused(text)
        self.assertEqual(read_pattern("[\\\\\\]]"), ("sign", "\\]"))
        self.assertEqual(read_pattern("[[]"), ("sign", "["))
        self.assertEqual(read_pattern("[()]"), ("sign", "()"))
        for text in ("[\n]", "[a\n]", "[\t]", "-\n", "\n-", "\t-", "[a]\n", "(-\n-)", "(-\t-)", "x:\n-"):
            self.refused(text)

    def test_agains_of_what_can_be_blank(self):
        for text in ("*-", "**[a]", "*(- | [a])", "*x:-", "*5$*[a]", "*(- -)", "*(*[a] *[b])"):
            self.refused(text)
        self.assertEqual(read_pattern("*!"), again(NONE))
        self.assertEqual(read_pattern("*(- [a])"), again(row(BLANK, A)))

    def test_no_texts(self):
        for thing in NO_TEXTS + ("", " ", "  ", "- ", " -", "--", "-!", "!!", "a", "x:", "*", "none", "blank", "\\", "|", "[a]x"):
            self.refused(thing)

    def test_length(self):
        six = row(*[ALL] * 6)
        self.assertEqual(len(pattern_text(six)), 595)
        for name, length in (("x", 597), ("abcd", 600)):
            pattern = held(name, six)
            self.assertEqual(len(pattern_text(pattern)), length)
            self.assertEqual(read_pattern(pattern_text(pattern)), pattern)
        for pattern, length in ((held("abcde", six), 601), (again(held("abcd", six)), 601), (held("abcdefgh", six), 604)):
            self.assertIs(is_pattern(pattern), True)
            self.assertEqual(len(pattern_text(pattern)), length)
            self.refused(pattern_text(pattern))
        for text in ("-" * 600, "-" * 601, "[a]" * 200, " " * 600, "9" * 600, "a" * 600, "[" * 600, "\\" * 600, "*" * 10 ** 5):
            self.refused(text)


class Beside(unittest.TestCase):
    # A text just beside one that is written is read only where it is written of another pattern.
    def look_at(self, text):
        try:
            pattern = read_pattern(text)
        except NoText:
            return False
        self.assertIs(is_pattern(pattern), True)
        self.assertEqual(pattern_text(pattern), text)
        return True

    def test_one_sign_more_fewer_other_or_two_exchanged(self):
        source = random.Random(192)
        read = []
        for pattern in PATTERNS + DEEP + (MIXED, held("x", price(10, pick(BLANK, ("sign", "[\\]"))))):
            text = pattern_text(pattern)
            signs = "[]\\()*:$|!- a0zA\n\t"
            beside = [text[:k] + text[k + 1:] for k in range(len(text))]
            beside += [text[:k] + text[k + 1:k + 2] + text[k] + text[k + 2:] for k in range(len(text))]
            for k in range(len(text) + 1):
                beside += [text[:k] + sign + text[k:] for sign in source.sample(signs, 6)]
                beside += [text[:k] + sign + text[k + 1:] for sign in source.sample(signs, 6)]
            read += [self.look_at(one) for one in beside]
        self.assertGreater(min(read.count(True), read.count(False)), 500)

    def test_rows_of_signs_by_chance(self):
        source = random.Random(193)
        pieces = ["[a]", "[b]", "-", "!", "(", ")", " ", " | ", "*", "x:", "12$", "\\", "]", "["]
        read = [self.look_at("".join(source.choice(pieces) for n in range(source.randint(1, 8)))) for k in range(20000)]
        self.assertGreater(min(read.count(True), read.count(False)), 300)

    # Of all short rows of these signs just those are read that are written of some pattern.
    def test_all_short_texts(self):
        for signs in ("[]a-!* ()", "-*!1$(a:) |"):
            inner = [sign for sign in sorted(signs) if "[" in signs and sign != "]"]
            made = {1: [NONE, BLANK]}
            for length in range(2, 6):
                made[length] = [("sign", "".join(some)) for some in itertools.combinations(inner, length - 2) if some]
                made[length] += [again(part) for part in made[length - 1]]
                for name in ("a", "aa", "aaa"):
                    made[length] += [held(name, part) for part in made.get(length - len(name) - 1, [])]
                for number in (1, 11, 111):
                    made[length] += [price(number, part) for part in made.get(length - len(str(number)) - 1, [])]
                for kind, between in ((row, 1), (pick, 3)):
                    for left in range(1, length):
                        made[length] += [kind(one, other) for one in made[left]
                                         for other in made.get(length - 2 - between - left, [])]
            texts = {pattern_text(pattern) for length in made for pattern in made[length] if is_pattern(pattern)}
            texts = {text for text in texts if set(text) <= set(signs)}
            self.assertEqual({text for text in texts_up_to(signs, 5) if self.look_at(text)}, texts)
            self.assertGreater(len(texts), 20)


class TreeText(unittest.TestCase):
    def test_each_kind(self):
        for tree, text in (
                (BLANK, "-"), (("sign", "a"), "[a]"), (("sign", "]"), "[\\]]"), (("sign", "\\"), "[\\\\]"), (("sign", " "), "[ ]"),
                (("row", (BLANK, ("sign", "a"))), "(- [a])"), (("pick", 0, BLANK), "0=-"), (("pick", 5, ("sign", "=")), "5=[=]"),
                (("again", ()), "*()"), (("again", (("sign", "a"),)), "*([a])"),
                (("again", (("sign", "a"), ("sign", "b"), ("sign", " "))), "*([a] [b] [ ])"), (("held", "x", BLANK), "x:-"),
                (("price", 0, BLANK), "0$-"), (("price", 1000, ("held", "name", ("again", ()))), "1000$name:*()"),
                (("pick", 1, ("pick", 2, ("row", (("again", ()), ("again", (BLANK,)))))), "1=2=(*() *(-))")):
            self.assertEqual(tree_text(tree), text)

    def test_unlike_trees_of_one_pattern_have_unlike_texts(self):
        looked_at = 0
        for pattern in PATTERNS + DEEP + tuple(chance_patterns(194, 300, 4)):
            trees = [tree for text in texts_up_to("ab", 4) for tree in slow_trees(pattern, text)[:60]]
            self.assertEqual(len({tree_text(tree) for tree in trees}), len(trees))
            looked_at += len(trees)
        self.assertGreater(looked_at, 5000)

    def test_long_and_deep_ones(self):
        turns = ("sign", "a"), ("sign", "]")
        self.assertEqual(tree_text(("again", turns * 5000)), "*(" + " ".join(["[a]", "[\\]]"] * 5000) + ")")
        tree = BLANK
        for k in range(3000):
            tree = ("held", "x", ("row", (tree, BLANK)))
        self.assertEqual(tree_text(tree), "x:(" * 3000 + "-" + " -)" * 3000)

    def test_more_makes_than_a_pattern_has(self):
        tree = ("row", tuple(("pick", k, ("price", k, ("sign", "a"))) for k in range(50)))
        self.assertEqual(tree_text(tree), "(" + " ".join(f"{k}={k}$[a]" for k in range(50)) + ")")


if __name__ == "__main__":
    unittest.main()
