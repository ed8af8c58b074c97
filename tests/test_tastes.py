"""4.1, 4.2 and 0.4: which tree is ahead by each taste, and the one that is told."""

import unittest

from tastegrove.errors import GroveError, NoTaste, TooMany
from tastegrove.tastes import is_ahead, told
from tastegrove.trees import is_tree, text_of
from tests.samples import (A, AB, BLANK, NONE, ONE_MORE, PATTERNS, SIXTY, TWO_HUNDRED, again, chance_patterns, held,
                           pick, price, row, slow_trees, texts_up_to)

TASTES = ("first", "shy", "long", "short", "cheap")
NO_TASTES = ("", "First", "FIRST", "firs", "firstt", "first ", " first", "last", "longest", "a", "\n", "first\n", "\tshy",
             "first shy", "cheap" * 30, 0, 1, -1, 10 ** 40, True, False, None, (), ("first",), ("first", "shy"), [],
             ["first"], {}, {"first": 1}, ("long", "short"))
TA = ("sign", "a")
ONE = ("again", (TA,))
TWO = ("again", (TA, TA))
NO_TURN = ("again", ())


# The trees in the order of a taste, told by a row of numbers for each: the lesser one is ahead. First puts trees as
# their marks do; shy does with the two marks of agains exchanged; by long and short what each tree caught is looked
# at ahead of its marks; by cheap the price of the whole is.
def order(taste, tree):
    if taste == "cheap":
        return [slow_price(tree)] + order("first", tree)
    kind = tree[0]
    numbers = {"long": [-slow_length(tree)], "short": [slow_length(tree)]}.get(taste, [])
    if kind == "row":
        return numbers + [number for inner in tree[1] for number in order(taste, inner)]
    if kind == "pick":
        return numbers + [tree[1]] + order(taste, tree[2])
    if kind == "again":
        turn, stop = (1, 0) if taste == "shy" else (0, 1)
        return numbers + [number for inner in tree[1] for number in [turn] + order(taste, inner)] + [stop]
    return numbers + (order(taste, tree[2]) if kind in ("held", "price") else [])


def slow_length(tree):
    if tree[0] == "sign":
        return 1
    return sum(slow_length(inner) for inner in inner_of(tree))


def slow_price(tree):
    return (tree[1] if tree[0] == "price" else 0) + sum(slow_price(inner) for inner in inner_of(tree))


def inner_of(tree):
    if tree[0] in ("row", "again"):
        return tree[1]
    return (tree[2],) if tree[0] in ("pick", "held", "price") else ()


class IsAhead(unittest.TestCase):
    # Which tastes put the one tree ahead of the other; all others must put it behind.
    def ahead(self, tastes, one, other):
        self.assertNotEqual(one, other)
        self.assertEqual(text_of(one), text_of(other))
        for taste in TASTES:
            self.assertIs(is_ahead(taste, one, other), taste in tastes.split(), taste)
            self.assertIs(is_ahead(taste, other, one), taste not in tastes.split(), taste)

    def test_picks(self):
        self.ahead("first shy long short cheap", ("pick", 0, TA), ("pick", 1, TA))
        self.ahead("first shy long short cheap", ("pick", 2, TA), ("pick", 5, TA))
        self.ahead("first shy long short cheap", ("pick", 1, ("pick", 0, TA)), ("pick", 1, ("pick", 3, TA)))
        self.ahead("first shy long short cheap", ("pick", 0, ("pick", 5, TA)), ("pick", 1, ("pick", 0, TA)))

    def test_rows(self):
        self.ahead("first long cheap", ("row", (TWO, NO_TURN)), ("row", (ONE, ONE)))
        self.ahead("first long cheap", ("row", (ONE, ONE)), ("row", (NO_TURN, TWO)))
        self.ahead("first long cheap", ("row", (TA, TWO, ONE)), ("row", (TA, ONE, TWO)))
        one, other = ("pick", 0, TA), ("pick", 1, TA)
        self.ahead("first shy long short cheap", ("row", (one, other)), ("row", (other, one)))
        self.ahead("first shy long short cheap", ("row", (other, one)), ("row", (other, other)))

    def test_unlike_stretches_of_long_and_short(self):
        short, long = ("pick", 0, TA), ("pick", 1, ("row", (TA, TA)))
        # The pick's number comes first by first and shy; the lesser one is of the shorter stretch here.
        self.ahead("first shy short cheap", ("row", (short, ONE)), ("row", (long, NO_TURN)))
        short, long = ("pick", 1, TA), ("pick", 0, ("row", (TA, TA)))
        self.ahead("first shy long cheap", ("row", (long, NO_TURN)), ("row", (short, ONE)))
        # Held and price are as long as what they are around.
        self.ahead("first long cheap", ("row", (("held", "x", TWO), NO_TURN)), ("row", (("held", "x", ONE), ONE)))
        # Within one stretch the inner ones are looked at by the same taste.
        one = ("row", (("row", (("pick", 0, TA), ("pick", 1, ("row", (TA, TA))))), TA))
        other = ("row", (("row", (("pick", 1, ("row", (TA, TA))), ("pick", 0, TA))), TA))
        self.ahead("first shy short cheap", one, other)

    def test_a_part_over_one_stretch_is_looked_into(self):
        short, long = ("pick", 0, TA), ("pick", 1, ("row", (TA, TA)))
        one, other = ("pick", 3, ("row", (short, long))), ("pick", 3, ("row", (long, short)))
        self.ahead("first shy short cheap", ("row", (one, TA)), ("row", (other, TA)))
        self.ahead("first shy short cheap", ("again", (one, short)), ("again", (other, short)))
        # The lesser pick is ahead by long too, where both are over one stretch.
        self.ahead("first shy long short cheap", ("pick", 0, ("row", (short, long))), ("pick", 1, ("row", (long, short))))

    def test_agains(self):
        short, long = ("pick", 0, TA), ("pick", 1, ("row", (TA, TA)))
        self.ahead("first shy short cheap", ("again", (short, short)), ("again", (long,)))
        self.ahead("first shy short cheap", ("again", (short, long)), ("again", (long, short)))
        self.ahead("first shy short cheap", ("again", (long, short, short)), ("again", (long, long)))
        short, long = ("pick", 1, TA), ("pick", 0, ("row", (TA, TA)))
        self.ahead("first shy long cheap", ("again", (long,)), ("again", (short, short)))
        self.ahead("first shy long cheap", ("again", (short, long)), ("again", (short, short, short)))

    def test_agains_within_agains(self):
        def turn(count):
            return ("row", (TA, ("again", (TA,) * count)))
        self.ahead("first long cheap", ("again", (turn(1),)), ("again", (turn(0), turn(0))))
        self.ahead("first long cheap", ("again", (turn(2), turn(0))), ("again", (turn(1), turn(1))))
        self.ahead("first long cheap", ("again", (turn(0), turn(1))), ("again", (turn(0), turn(0), turn(0))))

    def test_where_one_has_no_turn(self):
        self.ahead("first long cheap", ("row", (TWO, NO_TURN, TA)), ("row", (ONE, ONE, TA)))
        self.ahead("first long cheap", ("row", (ONE, ("pick", 1, TA))), ("row", (NO_TURN, ("pick", 0, TWO))))

    def test_held_and_price(self):
        for kind, label in (("held", "x"), ("price", 0), ("price", 7)):
            self.ahead("first shy long short cheap", (kind, label, ("pick", 0, TA)), (kind, label, ("pick", 1, TA)))
            self.ahead("first long cheap", (kind, label, ("row", (ONE, NO_TURN))), (kind, label, ("row", (NO_TURN, ONE))))

    def test_prices(self):
        dear, cheap = ("price", 5, TA), ("price", 2, TA)
        self.ahead("first shy long short", ("pick", 0, dear), ("pick", 1, cheap))
        self.ahead("first shy long short cheap", ("pick", 0, cheap), ("pick", 1, dear))
        self.ahead("first shy long short cheap", ("pick", 0, dear), ("pick", 1, dear))
        one, other = ("pick", 0, dear), ("pick", 1, cheap)
        # It is the price of the whole that counts, not that of the first unlike parts.
        self.ahead("first shy long short cheap", ("row", (one, other)), ("row", (other, one)))
        self.ahead("first shy long short", ("row", (one, one)), ("row", (other, one)))
        self.ahead("first shy long short", ("row", (one, one, other)), ("row", (other, other, one)))
        self.ahead("first shy long short", ("price", 1000, ("pick", 0, ("price", 3, dear))), ("price", 1000, (
            "pick", 1, ("price", 3, cheap))))
        # Of one price by first, not by shy, nor by cheap part by part.
        self.ahead("first long cheap", ("price", 3, ("row", (ONE, NO_TURN))), ("price", 3, ("row", (NO_TURN, ONE))))
        self.ahead("first shy long short cheap", ("row", (("pick", 0, dear), ("pick", 0, cheap))),
                   ("row", (("pick", 1, cheap), ("pick", 1, dear))))

    def test_by_the_order_there_is(self):
        for pattern in PATTERNS + tuple(chance_patterns(61, 250, 4)):
            for text in texts_up_to("ab", 4):
                trees = slow_trees(pattern, text)[:12]
                for taste in TASTES:
                    orders = [order(taste, tree) for tree in trees]
                    for k, one in enumerate(trees):
                        for n, other in enumerate(trees):
                            self.assertIs(is_ahead(taste, one, other), orders[k] < orders[n], (taste, one, other))

    def test_of_a_tree_and_itself(self):
        for pattern in PATTERNS:
            for text in ("", "a", "aa", "aab"):
                for tree in slow_trees(pattern, text)[:5]:
                    for taste in TASTES:
                        self.assertIs(is_ahead(taste, tree, tree), False)

    def test_sixty_signs(self):
        trees = slow_trees(TWO_HUNDRED, SIXTY)[::7]
        for taste in TASTES:
            for one in trees:
                for other in trees[::4]:
                    self.assertIs(is_ahead(taste, one, other), order(taste, one) < order(taste, other))

    def test_no_taste(self):
        for thing in NO_TASTES:
            for one, other in ((TA, TA), (("pick", 0, TA), ("pick", 1, TA)), (("pick", 1, TA), ("pick", 0, TA))):
                with self.assertRaises(NoTaste):
                    is_ahead(thing, one, other)
        with self.assertRaises(GroveError):
            is_ahead("last", TA, TA)


class Told(unittest.TestCase):
    def test_by_each_taste(self):
        pattern = row(again(A), again(A))
        most, least = ("row", (TWO, NO_TURN)), ("row", (NO_TURN, TWO))
        for taste, tree in (("first", most), ("shy", least), ("long", most), ("short", least), ("cheap", most)):
            self.assertEqual(told(pattern, taste, "aa"), tree)
        pattern = row(pick(price(3, A), price(2, row(A, A)), price(1, A)), again(A))
        for taste, k in (("first", 0), ("shy", 0), ("long", 1), ("short", 0), ("cheap", 2)):
            self.assertEqual(told(pattern, taste, "aa")[1][0][1], k)

    def test_ahead_of_all_others(self):
        for pattern in PATTERNS + tuple(chance_patterns(62, 250, 4)):
            for text in texts_up_to("ab", 4):
                trees = slow_trees(pattern, text)
                if len(trees) > 200:
                    continue
                for taste in TASTES:
                    tree = told(pattern, taste, text)
                    self.assertEqual(tree, min(trees, key=lambda one: order(taste, one), default=None))
                    if tree is not None:
                        self.assertIs(is_tree(pattern, tree), True)
                        self.assertEqual(text_of(tree), text)

    def test_none_is_ahead_of_it(self):
        for pattern in PATTERNS:
            for text in ("", "a", "aa", "ab", "aab", "aaaa"):
                for taste in TASTES:
                    tree = told(pattern, taste, text)
                    for other in slow_trees(pattern, text):
                        self.assertIs(is_ahead(taste, other, tree), False)
                        self.assertIs(is_ahead(taste, tree, other), tree != other)

    def test_none_where_the_text_does_not_fit(self):
        for taste in TASTES:
            for pattern, text in ((NONE, ""), (NONE, "a"), (A, ""), (A, "b"), (A, "aa"), (row(A, NONE), "a"),
                                  (again(A), "ab"), (pick(NONE, NONE), ""), (again(pick(A, A)), "a" * 59 + "b"),
                                  (held("x", NONE), "")):
                self.assertIsNone(told(pattern, taste, text))

    def test_of_the_text_without_signs(self):
        for taste in TASTES:
            self.assertEqual(told(BLANK, taste, ""), ("blank",))
            self.assertEqual(told(again(A), taste, ""), NO_TURN)
            self.assertEqual(told(pick(A, price(1, BLANK), BLANK), taste, "")[1], 2 if taste == "cheap" else 1)

    def test_too_many_just_beyond_two_hundred(self):
        trees = slow_trees(TWO_HUNDRED, SIXTY)
        self.assertEqual(len(trees), 200)
        for taste in TASTES:
            self.assertEqual(told(TWO_HUNDRED, taste, SIXTY), min(trees, key=lambda one: order(taste, one)))
            for pattern in (ONE_MORE, again(pick(A, A)), again(pick(A, row(A, A)))):
                with self.assertRaises(TooMany):
                    told(pattern, taste, SIXTY)
            self.assertEqual(text_of(told(again(AB), taste, SIXTY)), SIXTY)
            self.assertIsNone(told(ONE_MORE, taste, SIXTY[1:] + "b"))

    def test_no_taste_ahead_of_all_else(self):
        for thing in NO_TASTES:
            for pattern, text in ((A, "a"), (A, "b"), (NONE, ""), (ONE_MORE, SIXTY), (again(pick(A, A)), SIXTY)):
                with self.assertRaises(NoTaste):
                    told(pattern, thing, text)

    def test_nothing_handed_in_is_changed(self):
        things, table = ["first", ["shy"]], {"first": ["shy"]}
        for thing in (things, table):
            with self.assertRaises(NoTaste):
                told(A, thing, "a")
            with self.assertRaises(NoTaste):
                is_ahead(thing, TA, TA)
        self.assertEqual(things, ["first", ["shy"]])
        self.assertEqual(table, {"first": ["shy"]})

    def test_the_same_question_has_the_same_answer(self):
        pairs = [(pattern, taste) for pattern in PATTERNS for taste in TASTES]
        once = [told(pattern, taste, "aab") for pattern, taste in pairs]
        back = [told(pattern, taste, "aab") for pattern, taste in pairs[::-1]][::-1]
        self.assertEqual(once, back)


if __name__ == "__main__":
    unittest.main()
