"""1.1, 1.2, 1.3: patterns, blanks and texts, makes."""

import unittest

from tastegrove.patterns import can_be_blank, depth_of, has_texts, is_pattern, makes_of, parts_of, signs_of
from tests.samples import (A, AB, B, BLANK, NONE, PATTERNS, SIGNS, again, chance_patterns, changed_at_one_place, held,
                           pick, price, row, texts_up_to, trees_from, slow_trees, wrapped)


def deep(depth, around):
    pattern = A
    for k in range(depth - 1):
        pattern = around(pattern)
    return pattern


AROUNDS = (
    lambda part: held("x", part),
    lambda part: price(1, part),
    lambda part: row(part, A),
    lambda part: row(B, part),
    lambda part: pick(part, A),
    lambda part: pick(A, B, part),
)


# A pattern of so many makes, from 15 to 43: a row of six rows of signs.
def of_makes(count):
    sizes = [1] * 6
    left = count - 7
    for k in range(6):
        here = min(6, left - (5 - k))
        sizes[k] = here
        left -= here
    return ("row", tuple(A if size == 1 else ("row", (A,) * size) for size in sizes))


class IsPattern(unittest.TestCase):
    def yes(self, thing):
        self.assertIs(is_pattern(thing), True, thing)

    def no(self, thing):
        self.assertIs(is_pattern(thing), False, thing)

    def test_every_kind(self):
        for pattern in PATTERNS:
            self.yes(pattern)
        for pattern in chance_patterns(11, 200, 4):
            self.yes(pattern)

    def test_nine_deep_and_ten(self):
        for around in AROUNDS:
            for depth in range(1, 10):
                self.yes(deep(depth, around))
            for depth in (10, 11, 14):
                self.no(deep(depth, around))
        self.yes(again(deep(8, AROUNDS[0])))
        self.no(again(deep(9, AROUNDS[0])))
        self.no(row(A, B, deep(9, AROUNDS[1])))
        self.no(row(deep(9, AROUNDS[1]), A, B))
        self.yes(row(A, deep(8, AROUNDS[0]), B))
        for leaf in (NONE, BLANK):
            pattern = leaf
            for k in range(8):
                pattern = held("x", pattern)
            self.yes(pattern)
            self.no(held("x", pattern))

    def test_forty_makes_and_forty_one(self):
        for count in range(36, 44):
            self.assertEqual(is_pattern(of_makes(count)), count <= 40, count)
        # Of thirteen makes, each of which counts as often as it stands: 1 + 3 * 13 are forty.
        inner = row(A, A, A, A, A, row(A, A, A, A, A, A))
        self.yes(row(inner, inner, inner))
        self.no(row(inner, inner, inner, BLANK))
        self.no(row(NONE, inner, inner, inner))
        self.no(held("x", row(inner, inner, inner)))
        self.yes(price(1, row(inner, inner, A, row(A, A, A, A, A, A), A, A)))
        self.yes(price(1, row(inner, inner, A, row(A, A, A, A, A, A), pick(A, B), A)))

    def test_two_to_six_parts(self):
        for kind in ("row", "pick"):
            for count in range(9):
                self.assertIs(is_pattern((kind, (A,) * count)), 2 <= count <= 6, count)
                self.assertIs(is_pattern(held("x", (kind, (B,) * count))), 2 <= count <= 6, count)

    def test_parts_are_a_tuple_of_patterns(self):
        for kind in ("row", "pick"):
            for parts in ("ab", 2, 0, A, (A, "b"), (A, 3), (A, ()), ((A, B),), (A, (B,)), ("row", A), (A, ("sign",))):
                self.no((kind, parts))
            self.no((kind, A, B))
            self.no((kind,))
            self.no((kind, (A, B), ()))

    def test_one_to_ninety_four_signs(self):
        self.yes(("sign", SIGNS))
        for k in range(94):
            self.yes(("sign", SIGNS[k]))
            self.yes(("sign", SIGNS[:k + 1]))
            self.yes(("sign", SIGNS[k:]))
        self.no(("sign", ""))

    def test_signs_rise(self):
        for signs in ("ba", "aa", "aba", "abb", "aab", "acb", "bac", "abcdefa", "a ", "~ ", "zA", "a!", "aaa"):
            self.no(("sign", signs))
            self.no(again(("sign", signs)))
        self.no(("sign", SIGNS + "~"))
        self.no(("sign", " " + SIGNS))
        self.no(("sign", SIGNS[::-1]))
        self.no(("sign", SIGNS * 2))
        self.no(("sign", SIGNS[:50] + SIGNS[49:]))

    def test_signs_are_signs(self):
        for signs in ("\n", "\t", "\t\n", "\na", "\t ", 0, 5, (), ("a",), ("a", "b"), (("a",),)):
            self.no(("sign", signs))
        self.no(("sign",))
        self.no(("sign", "a", "b"))
        self.no(("sign", "a", ()))

    def test_names_are_words(self):
        for name in ("a", "z", "ab", "abcdefgh", "zzzzzzzz"):
            self.yes(held(name, A))
        for name in ("", "abcdefghi", "A", "aB", "a1", "a b", " a", "a ", "a_b", "-", "\n", "a\n", 0, 5, (), ("a",)):
            self.no(held(name, A))
            self.no(row(A, held(name, A)))

    def test_prices_from_nought_to_a_thousand(self):
        for number in (0, 1, 2, 500, 999, 1000):
            self.yes(price(number, A))
        for number in (-1, -2, 1001, 1002, 10 ** 30, -10 ** 30, "", "1", "a", (), (1,)):
            self.no(price(number, A))
            self.no(pick(A, price(number, A)))

    def test_lengths_of_tuples(self):
        for pattern in (NONE, BLANK, A, row(A, B), pick(A, B), again(A), held("x", A), price(1, A)):
            self.yes(pattern)
            for more in (0, "", (), A, "x", (A, B)):
                self.no(pattern + (more,))
            for k in range(len(pattern)):
                self.no(pattern[:k] + pattern[k + 1:])
        self.no(("held", "x"))
        self.no(("held", A, "x"))
        self.no(("price", A, 1))
        self.no(("again", (A,)))
        self.no(("again", A, A))
        self.no(("price", "x", A))
        self.no(("held", 1, A))

    def test_other_kinds(self):
        for kind in ("", "None", "NONE", "signs", "rows", "text", "a", " row", "row ", "turn", 0, 1, (), ("row",)):
            for rest in ((), ("a",), (A,), ((A, B),), ("x", A), (1, A)):
                self.no((kind,) + rest)

    def test_again_of_what_can_be_blank(self):
        blank = (BLANK, again(A), again(NONE), row(BLANK, BLANK), row(again(A), BLANK, again(B)), pick(A, BLANK),
                 pick(BLANK, A), pick(A, NONE, again(B)), held("x", BLANK), held("x", again(A)), price(0, BLANK),
                 price(3, again(A)), row(BLANK, pick(A, held("x", price(2, again(B))))),
                 held("x", price(1, pick(A, B, row(BLANK, BLANK)))))
        for part in blank:
            self.no(again(part))
            self.no(row(A, again(part)))
            self.no(held("x", pick(A, B, again(part))))
            self.no(again(row(A, again(part))))

    def test_again_of_what_cannot(self):
        for part in (NONE, A, row(A, BLANK), row(BLANK, again(A), B), pick(A, B), pick(NONE, A), held("x", A),
                     price(0, A), row(BLANK, NONE), pick(NONE, NONE), row(again(A), again(A), pick(A, B))):
            self.yes(again(part))
            self.yes(row(again(part), again(part)))

    def test_things_that_are_no_tuples(self):
        for thing in ("", "none", "blank", "a", 0, 1, -1, 10 ** 40, ()):
            self.no(thing)

    def test_things_nested_up_to_thirty_deep(self):
        for thing in (A, NONE, BLANK, "row", "a", 7, (), ("row", (A, B)), held("x", A)):
            for depth in range(1, 29):
                self.no(wrapped(thing, depth))
        for around in AROUNDS:
            self.no(deep(15, around))
        for depth in range(10, 31):
            self.no(deep(depth, AROUNDS[0]))
            self.no(deep(depth, AROUNDS[1]))

    # One tuple that stands twice at each step comes to very many places: this must be answered all the same.
    def test_one_tuple_at_very_many_places(self):
        for leaf in (A, BLANK, ("sign", "ba")):
            thing = leaf
            for k in range(14):
                thing = ("row", (thing,) * 6)
            self.no(thing)
        thing = 5
        for k in range(29):
            thing = (thing, thing)
        self.no(thing)
        self.no(("row", thing))
        thing = A
        for k in range(7):
            thing = ("pick", (thing,) * 6)
        self.no(thing)

    def test_one_place_changed(self):
        pattern = held("x", row(price(5, A), again(pick(B, AB))))
        answers = []
        for changed in changed_at_one_place(pattern, ("", "y", "ab", "ba", 7, -1, 1001, (), NONE, BLANK, A, again(A))):
            answers.append(is_pattern(changed))
            self.assertIs(answers[-1], slow_is_pattern(changed), changed)
        self.assertIn(True, answers)
        self.assertIn(False, answers)


# By the letter of 1.1, of things that are within the bounds of depth and makes.
def slow_is_pattern(thing):
    if thing in (("none",), ("blank",)):
        return True
    if not isinstance(thing, tuple) or len(thing) not in (2, 3):
        return False
    if len(thing) == 2:
        kind, rest = thing
        if kind == "sign":
            return isinstance(rest, str) and rest != "" and rest == "".join(sorted(set(rest)))
        if kind == "again":
            return slow_is_pattern(rest) and not trees_from(rest, "", 0)
        return kind in ("row", "pick") and isinstance(rest, tuple) and len(rest) in range(2, 7) \
            and all(map(slow_is_pattern, rest))
    kind, label, part = thing
    if kind == "held":
        return isinstance(label, str) and label.isalpha() and label.islower() and slow_is_pattern(part)
    return kind == "price" and isinstance(label, int) and label in range(1001) and slow_is_pattern(part)


class BlanksAndTexts(unittest.TestCase):
    def test_can_be_blank(self):
        table = ((NONE, False), (BLANK, True), (A, False), (again(A), True), (again(NONE), True),
                 (row(BLANK, BLANK), True), (row(BLANK, A), False), (row(A, BLANK), False), (row(again(A), BLANK), True),
                 (row(BLANK, NONE), False), (row(A, B), False), (row(BLANK, again(A), pick(A, BLANK)), True),
                 (row(BLANK, BLANK, BLANK, BLANK, BLANK, A), False), (pick(A, B), False), (pick(A, BLANK), True),
                 (pick(BLANK, A), True), (pick(NONE, BLANK), True), (pick(NONE, A), False), (pick(NONE, NONE), False),
                 (pick(A, B, A, B, A, again(A)), True), (held("x", BLANK), True), (held("x", A), False),
                 (held("x", NONE), False), (price(0, BLANK), True), (price(0, A), False), (price(9, again(A)), True),
                 (price(9, NONE), False), (held("x", price(1, row(BLANK, pick(NONE, held("y", BLANK))))), True),
                 (held("x", price(1, row(BLANK, pick(NONE, held("y", A))))), False))
        for pattern, answer in table:
            self.assertIs(can_be_blank(pattern), answer, pattern)

    def test_has_texts(self):
        table = ((NONE, False), (BLANK, True), (A, True), (again(A), True), (again(NONE), True), (row(A, B), True),
                 (row(A, NONE), False), (row(NONE, A), False), (row(A, A, A, A, A, NONE), False),
                 (row(BLANK, again(NONE)), True), (row(A, pick(NONE, B)), True), (row(A, pick(NONE, NONE)), False),
                 (pick(NONE, NONE), False), (pick(NONE, A), True), (pick(A, NONE), True), (pick(A, B), True),
                 (pick(NONE, row(A, NONE)), False), (pick(NONE, NONE, NONE, NONE, NONE, BLANK), True),
                 (held("x", NONE), False), (held("x", A), True), (price(0, NONE), False), (price(0, BLANK), True),
                 (again(row(A, NONE)), True), (again(pick(NONE, NONE)), True), (row(again(NONE), held("x", NONE)), False),
                 (held("x", price(1, row(BLANK, pick(NONE, held("y", NONE))))), False),
                 (held("x", price(1, row(BLANK, pick(NONE, held("y", A))))), True))
        for pattern, answer in table:
            self.assertIs(has_texts(pattern), answer, pattern)

    def test_by_the_trees_there_are(self):
        for pattern in PATTERNS + tuple(chance_patterns(12, 300, 3)):
            self.assertIs(can_be_blank(pattern), slow_trees(pattern, "") != [], pattern)
            if has_texts(pattern):
                self.assertTrue(any(slow_trees(pattern, text) for text in texts_up_to("ab", 6) + [" "]), pattern)
            else:
                self.assertFalse(any(slow_trees(pattern, text) for text in texts_up_to("ab", 4)), pattern)


class Makes(unittest.TestCase):
    def test_makes_in_the_order_of_writing(self):
        inner = pick(B, again(AB))
        pattern = row(held("x", A), inner, price(3, inner), BLANK)
        self.assertEqual(makes_of(pattern), [
            pattern, held("x", A), A, inner, B, again(AB), AB, price(3, inner), inner, B, again(AB), AB, BLANK])
        self.assertEqual(parts_of(pattern), [
            (1, 3, 7, 12), (2,), (), (4, 5), (), (6,), (), (8,), (9, 10), (), (11,), (), ()])

    def test_of_one_make(self):
        for pattern in (NONE, BLANK, A, ("sign", SIGNS)):
            self.assertEqual(makes_of(pattern), [pattern])
            self.assertEqual(parts_of(pattern), [()])

    def test_like_parts(self):
        self.assertEqual(makes_of(row(A, A, A)), [row(A, A, A), A, A, A])
        self.assertEqual(parts_of(row(A, A, A)), [(1, 2, 3), (), (), ()])
        two = row(A, A)
        self.assertEqual(makes_of(pick(two, two)), [pick(two, two), two, A, A, two, A, A])
        self.assertEqual(parts_of(pick(two, two)), [(1, 4), (2, 3), (), (), (5, 6), (), ()])

    def test_each_kind_of_parts(self):
        self.assertEqual(parts_of(again(held("x", price(1, A)))), [(1,), (2,), (3,), ()])
        self.assertEqual(parts_of(pick(NONE, BLANK, A, B, AB, NONE)), [(1, 2, 3, 4, 5, 6)] + [()] * 6)

    def test_of_forty_makes(self):
        pattern = of_makes(40)
        makes, parts = makes_of(pattern), parts_of(pattern)
        self.assertEqual(len(makes), 40)
        self.assertEqual(len(parts), 40)
        self.assertEqual(sorted(number for numbers in parts for number in numbers), list(range(1, 40)))

    def test_parts_go_with_makes(self):
        for pattern in PATTERNS + tuple(chance_patterns(13, 200, 4)):
            makes, parts = makes_of(pattern), parts_of(pattern)
            self.assertIs(type(makes), list)
            self.assertIs(type(parts), list)
            self.assertEqual(len(makes), len(parts))
            self.assertEqual(makes[0], pattern)
            seen = []
            self.check_from(makes, parts, 0, seen)
            self.assertEqual(seen, list(range(len(makes))))

    def check_from(self, makes, parts, number, seen):
        seen.append(number)
        make = makes[number]
        inner = {"row": make[1:2], "pick": make[1:2], "again": (make[1:2],), "held": (make[2:3],),
                 "price": (make[2:3],)}.get(make[0], ((),))[0]
        self.assertIs(type(parts[number]), tuple)
        self.assertEqual(tuple(makes[part] for part in parts[number]), inner)
        for part in parts[number]:
            self.check_from(makes, parts, part, seen)

    def test_depth(self):
        table = ((NONE, 1), (BLANK, 1), (A, 1), (row(A, B), 2), (pick(A, row(A, B)), 3), (pick(row(A, B), A), 3),
                 (again(A), 2), (held("x", A), 2), (price(1, A), 2), (row(A, again(held("x", price(1, A))), B), 5),
                 (row(A, row(A, row(A, B)), row(A, B)), 4))
        for pattern, depth in table:
            self.assertEqual(depth_of(pattern), depth)
        for around in AROUNDS:
            for depth in range(1, 13):
                self.assertEqual(depth_of(deep(depth, around)), depth)

    def test_signs(self):
        table = ((NONE, ""), (BLANK, ""), (A, "a"), (row(NONE, BLANK), ""), (row(B, A), "ab"), (row(A, A), "a"),
                 (pick(("sign", "bd"), ("sign", "ac"), ("sign", "cd")), "abcd"), (("sign", SIGNS), SIGNS),
                 (row(("sign", "~"), again(("sign", " z")), held("q", price(3, ("sign", "AZ")))), " AZz~"),
                 (again(held("x", price(5, ("sign", "09")))), "09"), (pick(("sign", SIGNS[1:]), ("sign", " ")), SIGNS),
                 (row(A, NONE), "a"))
        for pattern, signs in table:
            self.assertEqual(signs_of(pattern), signs)

    def test_told_lists_are_the_askers_own(self):
        pattern = row(held("x", again(A)), pick(A, B), again(A))
        for asked in (makes_of, parts_of):
            told = asked(pattern)
            copy = list(told)
            told[0] = None
            told.append(5)
            self.assertEqual(asked(pattern), copy)
            told.clear()
            self.assertEqual(asked(pattern), copy)
            self.assertIsNot(asked(pattern), asked(pattern))

    def test_the_same_question_has_the_same_answer(self):
        asked = (is_pattern, can_be_blank, has_texts, makes_of, parts_of, depth_of, signs_of)
        once = [[ask(pattern) for ask in asked] for pattern in PATTERNS]
        back = [[ask(pattern) for ask in asked] for pattern in PATTERNS[::-1]][::-1]
        self.assertEqual(once, back)


if __name__ == "__main__":
    unittest.main()
