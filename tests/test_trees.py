"""2.1 and 2.2: trees, their texts, what they caught, their prices."""

import unittest

from tastegrove.trees import caught_of, is_tree, price_of, text_of
from tests.samples import (A, AB, B, BLANK, NONE, PATTERNS, SIGNS, again, chance_patterns, changed_at_one_place, held,
                           pick, price, row, slow_trees, texts_up_to, wrapped)

TA = ("sign", "a")
TB = ("sign", "b")
TBLANK = ("blank",)
THINGS = ("", "a", "b", "ab", "x", "blank", 0, 1, 2, -1, 7, (), TA, TB, TBLANK, ("none",), ("again", ()), (TA, TA))


def signs_in(thing):
    if not isinstance(thing, tuple):
        return 0
    return (thing[:1] == ("sign",)) + sum(signs_in(inner) for inner in thing)


# A held around a pick around a price around an again .., so deep, and its one tree of one sign.
def deep_pair(depth):
    pattern, tree = A, TA
    for k in range(depth - 1):
        pattern, tree = (
            (held("x", pattern), ("held", "x", tree)),
            (pick(B, pattern), ("pick", 1, tree)),
            (price(2, pattern), ("price", 2, tree)),
            (row(BLANK, pattern), ("row", (TBLANK, tree))),
            (pick(pattern, A), ("pick", 0, tree)))[k % 5]
    return pattern, tree


class IsTree(unittest.TestCase):
    def yes(self, pattern, thing):
        self.assertIs(is_tree(pattern, thing), True, (pattern, thing))

    def no(self, pattern, thing):
        self.assertIs(is_tree(pattern, thing), False, (pattern, thing))

    def test_blank(self):
        self.yes(BLANK, TBLANK)
        for thing in ((), ("blank", ()), ("blank", "a"), ("none",), ("sign", ""), ("again", ()), "blank", 0, (TBLANK,)):
            self.no(BLANK, thing)

    def test_none_has_none(self):
        for thing in THINGS + (("none", ()), ("row", ()), ("pick", 0, TA)):
            self.no(NONE, thing)
            self.no(held("x", NONE), ("held", "x", thing))
            self.no(price(1, NONE), ("price", 1, thing))
            self.no(row(A, NONE), ("row", (TA, thing)))
            self.no(pick(A, NONE), ("pick", 1, thing))
            self.no(again(NONE), ("again", (thing,)))
        self.no(row(A, NONE), ("row", (TA,)))

    def test_none_within_picks_and_agains(self):
        self.yes(pick(A, NONE), ("pick", 0, TA))
        self.yes(pick(NONE, A), ("pick", 1, TA))
        self.no(pick(NONE, A), ("pick", 0, TA))
        self.yes(again(NONE), ("again", ()))
        self.yes(again(pick(NONE, A)), ("again", (("pick", 1, TA), ("pick", 1, TA))))
        self.no(again(pick(NONE, A)), ("again", (("pick", 1, TA), ("pick", 0, TA))))

    def test_sign(self):
        for sign in SIGNS:
            self.yes(("sign", SIGNS), ("sign", sign))
            self.yes(("sign", sign), ("sign", sign))
            self.assertIs(is_tree(("sign", "ab"), ("sign", sign)), sign in "ab")
        for sign in ("", "ab", "abc", "aa", "ba", "\n", "\t", 0, 1, (), ("a",), TA):
            self.no(("sign", "abc"), ("sign", sign))
        self.no(A, ("sign",))
        self.no(A, ("sign", "a", "a"))
        self.no(A, ("sign", "a", ()))
        self.no(A, "a")
        self.no(A, ("a",))

    def test_row(self):
        pattern = row(A, B, AB)
        self.yes(pattern, ("row", (TA, TB, TA)))
        self.yes(pattern, ("row", (TA, TB, TB)))
        for trees in ((), (TA,), (TA, TB), (TA, TB, TA, TA), (TB, TA, TA), (TA, TA, TB), (TA, TB, ("sign", "c")),
                      (TA, TB, TBLANK), TA, "abc", 3, ((TA, TB, TA),), (("a"), ("b"), ("a"))):
            self.no(pattern, ("row", trees))
        self.no(pattern, ("row", TA, TB, TA))
        self.no(pattern, ("row", (TA, TB, TA), ()))
        self.no(pattern, ("row",))
        self.no(pattern, ("pick", (TA, TB, TA)))
        self.no(row(A, A), ("again", (TA, TA)))
        self.yes(row(BLANK, again(A)), ("row", (TBLANK, ("again", ()))))

    def test_pick(self):
        pattern = pick(A, B, A)
        for k, tree in ((0, TA), (1, TB), (2, TA)):
            self.yes(pattern, ("pick", k, tree))
        for k, tree in ((0, TB), (1, TA), (2, TB), (3, TA), (-1, TA), (-2, TB), (-3, TA), (10 ** 30, TA),
                        (-10 ** 30, TA), ("0", TA), ((), TA), ((0,), TA), ("", TA)):
            self.no(pattern, ("pick", k, tree))
        self.no(pattern, ("pick", 0))
        self.no(pattern, ("pick", TA))
        self.no(pattern, ("pick", TA, 0))
        self.no(pattern, ("pick", 0, TA, TA))
        self.no(pattern, ("pick", 0, (TA,)))
        self.no(pattern, TA)

    def test_again(self):
        pattern = again(pick(A, row(A, B)))
        one, two = ("pick", 0, TA), ("pick", 1, ("row", (TA, TB)))
        for turns in ((), (one,), (two,), (one, two), (two, one, one, two)):
            self.yes(pattern, ("again", turns))
        for turns in ((TA,), (one, TA), (one, ()), ((), one), ((one,),), "", "a", 0, one, (one, two, ("pick", 0, TB))):
            self.no(pattern, ("again", turns))
        self.no(pattern, ("again",))
        self.no(pattern, ("again", (), ()))
        self.no(pattern, ("again", one, two))
        self.no(again(A), ("row", (TA, TA)))
        self.no(again(A), ())

    def test_again_within_again(self):
        pattern = again(row(A, again(B)))
        none, two = ("row", (TA, ("again", ()))), ("row", (TA, ("again", (TB, TB))))
        self.yes(pattern, ("again", (none, two, none)))
        self.no(pattern, ("again", (none, ("row", (TA, ("again", (TB, TA)))), none)))

    def test_held_and_price(self):
        self.yes(held("x", A), ("held", "x", TA))
        self.yes(price(3, A), ("price", 3, TA))
        self.yes(price(0, BLANK), ("price", 0, TBLANK))
        for name in ("y", "", "xx", "X", 0, (), ("x",)):
            self.no(held("x", A), ("held", name, TA))
        for number in (2, 4, -3, 0, "3", "", (), (3,), 10 ** 30):
            self.no(price(3, A), ("price", number, TA))
        self.no(held("x", A), ("held", "x", TB))
        self.no(price(3, A), ("price", 3, TB))
        self.no(held("x", A), ("price", "x", TA))
        self.no(held("x", A), ("held", "x"))
        self.no(held("x", A), ("held", TA))
        self.no(held("x", A), ("held", TA, "x"))
        self.no(held("x", A), ("held", "x", TA, TA))
        self.no(price(3, A), ("price", 3, TA, 3))
        self.no(held("x", A), TA)

    def test_all_trees_and_no_others(self):
        for pattern in PATTERNS + tuple(chance_patterns(21, 120, 3)):
            for text in texts_up_to("ab", 3):
                for tree in slow_trees(pattern, text):
                    self.yes(pattern, tree)

    def test_one_place_changed(self):
        patterns = [pattern for pattern in PATTERNS if pattern != ("sign", SIGNS)] + chance_patterns(22, 60, 3)
        answers = []
        for pattern in patterns:
            known = {text: slow_trees(pattern, text) for text in texts_up_to("ab", 4)}
            trees = [tree for text in texts_up_to("ab", 2) for tree in known[text][:2]]
            for tree in trees:
                for changed in changed_at_one_place(tree, THINGS):
                    if signs_in(changed) <= 4:
                        answers.append(is_tree(pattern, changed))
                        self.assertIs(answers[-1], any(changed in found for found in known.values()), (pattern, changed))
        self.assertGreater(answers.count(True), 100)
        self.assertGreater(answers.count(False), 10000)

    def test_one_place_changed_however_deep(self):
        for depth in range(1, 10):
            pattern, tree = deep_pair(depth)
            self.yes(pattern, tree)
            for changed in changed_at_one_place(tree, ("b", "y", 5, (), TB, ("none",))):
                self.no(pattern, changed)

    def test_things_up_to_thirty_deep(self):
        pattern, tree = deep_pair(9)
        for depth in range(1, 28):
            self.no(pattern, wrapped(tree, depth))
            self.no(again(A), wrapped(TA, depth))
            self.no(again(A), ("again", wrapped(TA, depth + 1)))
            self.no(row(A, A), ("row", wrapped(TA, depth)))
            self.no(A, wrapped("sign", depth))
        for depth in (1, 2, 3, 4, 5, 6, 7, 8, 10, 11, 12, 13, 14, 15):
            self.no(pattern, deep_pair(depth)[1])

    def test_trees_of_more_than_sixty_signs(self):
        self.yes(again(AB), ("again", (TA,) * 61))
        self.yes(again(AB), ("again", (TA, TB) * 100))
        self.no(again(AB), ("again", (TA, TB) * 100 + (("sign", "c"),)))
        self.no(again(A), ("again", (TA,) * 60 + (TB,) + (TA,) * 60))


class Told(unittest.TestCase):
    def test_text(self):
        table = ((TBLANK, ""), (TA, "a"), (("sign", " "), " "), (("row", (TA, TB)), "ab"), (("again", ()), ""),
                 (("again", (TB, TA, TA)), "baa"), (("pick", 5, TB), "b"), (("held", "x", TA), "a"),
                 (("price", 9, TA), "a"), (("row", (("again", (TA, TA)), TBLANK, ("held", "x", TB))), "aab"),
                 (("held", "a", ("price", 1, ("pick", 0, ("row", (TA, ("again", (TB, TA)), TB))))), "abab"))
        for tree, text in table:
            self.assertEqual(text_of(tree), text)

    def test_texts_of_all_trees(self):
        for pattern in PATTERNS + tuple(chance_patterns(23, 100, 3)):
            for text in texts_up_to("ab", 3):
                for tree in slow_trees(pattern, text):
                    self.assertEqual(text_of(tree), text)

    def test_caught(self):
        inner = ("held", "in", ("again", (TA, TB)))
        table = ((TA, []), (TBLANK, []), (("held", "x", TA), [("x", 0, 1)]), (("held", "x", TBLANK), [("x", 0, 0)]),
                 (("row", (TA, ("held", "x", TB), TA)), [("x", 1, 2)]),
                 (("row", (TA, ("held", "x", ("again", ())), TA)), [("x", 1, 1)]),
                 (("held", "out", ("row", (TA, inner, TA))), [("out", 0, 4), ("in", 1, 3)]),
                 (("held", "b", ("held", "a", TA)), [("b", 0, 1), ("a", 0, 1)]),
                 (("row", (inner, inner)), [("in", 0, 2), ("in", 2, 4)]),
                 (("again", (("held", "x", TA), ("held", "x", TB))), [("x", 0, 1), ("x", 1, 2)]),
                 (("row", (("held", "z", TA), ("held", "a", TBLANK))), [("z", 0, 1), ("a", 1, 1)]),
                 (("row", (("held", "x", TBLANK), TA, ("held", "x", TBLANK))), [("x", 0, 0), ("x", 1, 1)]),
                 (("pick", 1, ("price", 2, ("row", (TA, ("held", "x", TA))))), [("x", 1, 2)]),
                 (("held", "x", ("row", (("held", "x", TA), ("held", "y", ("held", "x", TB))))),
                  [("x", 0, 2), ("x", 0, 1), ("y", 1, 2), ("x", 1, 2)]))
        for tree, caught in table:
            self.assertEqual(caught_of(tree), caught)
            self.assertIs(type(caught_of(tree)), list)
            self.assertTrue(all(type(triple) is tuple for triple in caught_of(tree)))

    def test_caught_of_all_trees(self):
        for pattern in PATTERNS + tuple(chance_patterns(24, 150, 4)):
            for text in texts_up_to("ab", 3):
                for tree in slow_trees(pattern, text)[:30]:
                    found = []
                    self.assertEqual(slow_caught(tree, 0, found), len(text))
                    self.assertEqual(caught_of(tree), found)

    def test_price(self):
        table = ((TA, 0), (TBLANK, 0), (("price", 5, TA), 5), (("price", 0, TA), 0), (("price", 1000, TBLANK), 1000),
                 (("price", 5, ("price", 5, ("price", 1, TA))), 11), (("pick", 7, TA), 0), (("held", "x", TA), 0),
                 (("row", (("price", 1, TA), ("price", 2, TA), TA, ("price", 2, TA))), 5), (("again", ()), 0),
                 (("again", (("price", 3, TA),) * 4), 12), (("pick", 3, ("held", "x", ("price", 4, TA))), 4),
                 (("price", 10, ("again", (("price", 1, TA), ("pick", 1, ("price", 2, TB))))), 13))
        for tree, number in table:
            self.assertEqual(price_of(tree), number)

    def test_trees_of_many_signs_and_makes(self):
        turn = ("held", "x", ("price", 1000, ("row", (TA, ("held", "y", TBLANK), TB))))
        tree = ("again", (turn,) * 300)
        self.assertEqual(text_of(tree), "ab" * 300)
        self.assertEqual(price_of(tree), 300000)
        caught = caught_of(tree)
        self.assertEqual(len(caught), 600)
        self.assertEqual(caught[-2:], [("x", 598, 600), ("y", 599, 599)])
        six = ("row", (("price", 1, TA), TB, ("held", "x", TA), TB, TA, ("pick", 1, TB)))
        many = ("row", (("row", (six,) * 6),) * 6)
        self.assertEqual(text_of(many), "ababab" * 36)
        self.assertEqual(price_of(many), 36)
        self.assertEqual(caught_of(many), [("x", 6 * k + 2, 6 * k + 3) for k in range(36)])

    def test_trees_of_deep_patterns(self):
        tree = TA
        for k in range(300):
            tree = ("held", "x", ("price", 1, tree))
        self.assertEqual(text_of(tree), "a")
        self.assertEqual(price_of(tree), 300)
        self.assertEqual(caught_of(tree), [("x", 0, 1)] * 300)

    def test_told_lists_are_the_askers_own(self):
        tree = ("held", "x", ("row", (TA, ("held", "y", TB))))
        told = caught_of(tree)
        told[0] = None
        told.append(("z", 0, 0))
        self.assertEqual(caught_of(tree), [("x", 0, 2), ("y", 1, 2)])
        told.clear()
        self.assertEqual(caught_of(tree), [("x", 0, 2), ("y", 1, 2)])
        empty = caught_of(TA)
        empty.append(1)
        self.assertEqual(caught_of(TA), [])

    def test_the_same_question_has_the_same_answer(self):
        trees = [tree for pattern in PATTERNS for tree in slow_trees(pattern, "aab")[:5]]
        once = [(text_of(tree), caught_of(tree), price_of(tree)) for tree in trees]
        back = [(text_of(tree), caught_of(tree), price_of(tree)) for tree in trees[::-1]][::-1]
        self.assertEqual(once, back)


# By the letter of 2.2; told is where the tree ends.
def slow_caught(tree, at, found):
    if tree[0] == "sign":
        return at + 1
    if tree[0] == "held":
        place = len(found)
        found.append(None)
        end = slow_caught(tree[2], at, found)
        found[place] = (tree[1], at, end)
        return end
    inner = {"row": tree[-1], "again": tree[-1], "blank": ()}.get(tree[0], (tree[-1],))
    for one in inner:
        at = slow_caught(one, at, found)
    return at


if __name__ == "__main__":
    unittest.main()
