"""10.1, 10.2 and 0.4: tables made ahead have the rows of the walk by each text, and tell what it tells."""

import copy
import unittest

from tastegrove.errors import NoTaste, TooMany
from tastegrove.patterns import is_pattern
from tastegrove.places import blanks, places_of, starts, steps
from tastegrove.runs import run_of, trail_with
from tastegrove.tables import table_of, told_by
from tastegrove.trails import Trails
from tastegrove.walks import walked
from tests.samples import (A, AB, B, BLANK, FULL, FULL_BLANKS, HUGE_BUT_WITHOUT_TEXTS, HUGE_ONES, NONE, OVERFULL,
                           OVERFULL_BLANKS, PATTERNS, SIGNS, SIXTY, again, chance_patterns, held, pick, price, row,
                           texts_up_to)
from tests.test_against import ROOMS
from tests.test_leans import DEEP, LEANING, standings
from tests.test_tastes import NO_TASTES
from tests.test_walks import taken

C = ("sign", "c")
NINE = row(A, A, A, A, A, row(A, A, A, A))
ELEVEN = row(A, A, A, A, A, row(*[A] * 6))
# By all texts of one sign the first three agains go round at 4, 9 and 11 signs, together at 396; these have 400 rows
# and 401.
FOUR_HUNDRED = pick(again(row(A, A, A, A)), again(NINE), again(ELEVEN), row(B, B, B))
ONE_ROW_MORE = pick(again(row(A, A, A, A)), again(NINE), again(ELEVEN), row(B, B, B, B))


# The trails of a beginning.
def trails_of(trails, beginning):
    found, listed = [], trails.starts
    for step in beginning:
        found.append(trail_with(listed, step[1]))
        listed = trails.steps[step[0]]
    return found


# By 10.1 what tells the rows of texts with signs apart.
def name_of(trails, taste, walk):
    begun = {place: trails_of(trails, walk.beginning(place)) for place in walk.kept()}
    pairs = []
    for p in begun:
        for q in begun:
            if p < q:
                common, lean = standings(taste, begun[p], begun[q])[-1]
                pairs.append((p, q, lean, common if taste in ("long", "short") else 0))
    return tuple(walk.kept()), tuple(pairs)


def row_by(table, text):
    row = 0
    for sign in text:
        if sign not in table[row][2]:
            return None
        row = table[row][2][sign][0]
    return row


class Rows(unittest.TestCase):
    def check_form(self, pattern, table):
        self.assertIs(type(table), list)
        signs = places_of(pattern)
        for number, one in enumerate(table):
            self.assertEqual((type(one), len(one)), (tuple, 3))
            kept, end, moves = one
            self.assertEqual((type(kept), kept), (tuple, tuple(sorted(set(kept)))))
            self.assertTrue(end is None or (type(end), len(end)) == (tuple, 2))
            self.assertIs(type(moves), dict)
            onward = starts(pattern) if number == 0 else [step for place in kept for step in steps(pattern, place)]
            self.assertEqual(sorted(moves), sorted({sign for step in onward for sign in signs[step[0]]}))
            for sign in moves:
                self.assertEqual((type(moves[sign]), len(moves[sign]), type(moves[sign][1])), (tuple, 2, tuple))
                to, froms = moves[sign]
                self.assertTrue(0 < to < len(table))
                self.assertEqual([step[0] for place, step in froms], list(table[to][0]))
                self.assertTrue(all(type(pair) is tuple for pair in froms))
        self.assertEqual(table[0][0], ())

    def test_kept_ends_moves_and_froms_are_those_of_the_walk(self):
        for pattern in DEEP + PATTERNS + tuple(chance_patterns(171, 100, 4)):
            for taste in LEANING:
                table = table_of(pattern, taste)
                self.check_form(pattern, table)
                for text in texts_up_to("ab", 4):
                    self.check_text(pattern, taste, table, text)

    def check_text(self, pattern, taste, table, text):
        walk = taken(pattern, taste, text)
        at = row_by(table, text)
        if at is None:
            self.assertEqual(walk.kept(), [])
            self.assertIsNone(walk.told())
            return
        kept, end, moves = table[at]
        self.assertEqual(list(kept), walk.kept())
        tree = walk.told()
        if tree is None:
            self.assertIsNone(end)
        else:
            run, last = run_of(pattern, tree)
            self.assertEqual(end, (run[-1][0] if run else None, last))
        for sign in moves:
            after = taken(pattern, taste, text + sign)
            froms = []
            for place in after.kept():
                beginning = after.beginning(place)
                froms.append((beginning[-2][0] if text else None, beginning[-1]))
            self.assertEqual(moves[sign][1], tuple(froms))

    def test_two_texts_come_to_one_row_just_where_they_lean_alike(self):
        rows = 0
        for pattern in ROOMS + DEEP + PATTERNS + tuple(chance_patterns(172, 150, 4)):
            trails = Trails(pattern)
            for taste in LEANING:
                table = table_of(pattern, taste)
                by_names, by_rows = {}, {}
                for text in texts_up_to("ab", 5)[1:]:
                    walk = taken(pattern, taste, text)
                    if walk.kept():
                        name, number = name_of(trails, taste, walk), row_by(table, text)
                        self.assertEqual(by_names.setdefault(name, number), number)
                        self.assertEqual(by_rows.setdefault(number, name), name)
                self.assertNotIn(0, by_rows)
                rows += len(by_rows)
        self.assertGreater(rows, 1000)

    def test_rows_are_numbered_by_the_least_texts(self):
        for pattern in ROOMS + DEEP + PATTERNS + tuple(chance_patterns(173, 150, 4)):
            for taste in LEANING:
                table = table_of(pattern, taste)
                # By the first texts that come to them all rows are come to in order.
                seen, groups = [0], [""]
                while groups:
                    further = []
                    for text in groups:
                        for sign in "ab":
                            number = row_by(table, text + sign)
                            if number is not None and number not in seen:
                                self.assertEqual(number, len(seen))
                                seen.append(number)
                                further.append(text + sign)
                    groups = further
                self.assertEqual(len(seen), len(table))

    def test_what_is_told(self):
        blank = ((1, 1), 0)
        to_first, to_second = (0, (0,), 0), (1, (1, 0), 0)
        self.assertEqual(table_of(row(again(A), again(AB)), "first"), [
            ((), (None, blank), {"a": (1, ((None, to_first), (None, to_second))), "b": (2, ((None, to_second),))}),
            ((0, 1), (0, blank), {"a": (1, ((0, to_first), (0, to_second))), "b": (2, ((0, to_second),))}),
            ((1,), (1, ((1,), 0)), {"a": (2, ((1, (1, (0,), 0)),)), "b": (2, ((1, (1, (0,), 0)),))}),
        ])
        self.assertEqual(table_of(row(A, price(3, B)), "long"), [
            ((), None, {"a": (1, ((None, (0, (), 0)),))}),
            ((0,), None, {"b": (2, ((0, (1, (), 3)),))}),
            ((1,), (1, ((), 0)), {}),
        ])
        for taste in LEANING:
            self.assertEqual(table_of(NONE, taste), [((), None, {})])
            self.assertEqual(table_of(price(2, BLANK), taste), [((), (None, ((), 2)), {})])
            self.assertEqual(table_of(HUGE_BUT_WITHOUT_TEXTS, taste)[1:], [((0,), (0, ((), 0)), {})])

    def test_rooms_in_common_tell_rows_apart_by_long_and_short_alone(self):
        pattern = again(row(pick(BLANK, B), row(AB, AB)))
        trails = Trails(pattern)
        for taste, count in (("first", 8), ("shy", 8), ("long", 10), ("short", 10)):
            self.assertEqual(len(table_of(pattern, taste)), count)
            walks = [taken(pattern, taste, text) for text in texts_up_to("ab", 6)[1:]]
            with_rooms = {name_of(trails, "long", walk) for walk in walks if walk.kept()}
            self.assertEqual(len(with_rooms), 9)

    def test_the_row_without_signs_stands_alone(self):
        for taste in LEANING:
            table = table_of(again(A), taste)
            self.assertEqual([one[0] for one in table], [(), (0,)])
            self.assertEqual(table[1][2]["a"][0], 1)

    def test_four_hundred_rows(self):
        for pattern in (FOUR_HUNDRED, ONE_ROW_MORE):
            self.assertIs(is_pattern(pattern), True)
        for taste in LEANING:
            table = table_of(FOUR_HUNDRED, taste)
            self.assertEqual(len(table), 400)
            self.assertEqual(row_by(table, "a" * 396), row_by(table, "a" * 792))
            self.assertNotEqual(row_by(table, "a" * 396), row_by(table, "a" * 395))
            with self.assertRaises(TooMany):
                table_of(ONE_ROW_MORE, taste)

    def test_far_more_rows(self):
        pattern = row(again(AB), A, AB, AB, AB, row(AB, AB, AB, AB, AB, row(AB, AB, AB, AB, AB, AB)))
        for taste in LEANING:
            with self.assertRaises(TooMany):
                table_of(pattern, taste)


class ToldBy(unittest.TestCase):
    def test_what_walked_tells(self):
        fits = []
        for pattern in DEEP + PATTERNS + tuple(chance_patterns(174, 150, 4)):
            for taste in LEANING:
                table = table_of(pattern, taste)
                as_tuple = tuple(table)
                for text in texts_up_to("ab", 4) + ["c", "ac", "ca", "a c", "aaaaaaaa", "abababab", SIXTY, "ab" * 30]:
                    tree = walked(pattern, taste, text)
                    self.assertEqual(told_by(pattern, table, text), tree)
                    self.assertEqual(told_by(pattern, as_tuple, text), tree)
                    fits.append(tree is not None)
        self.assertGreater(min(fits.count(True), fits.count(False)), 1000)

    def test_long_texts(self):
        for pattern in DEEP + (row(again(pick(A, row(A, A))), again(A)), FULL):
            for taste in LEANING:
                table = table_of(pattern, taste)
                for text in ("a" * 150, "a" * 149 + "b", "aab" * 50):
                    self.assertEqual(told_by(pattern, table, text), walked(pattern, taste, text))
        table = table_of(FOUR_HUNDRED, "short")
        for count in (0, 1, 11, 36, 99, 396):
            self.assertEqual(told_by(FOUR_HUNDRED, table, "a" * count), walked(FOUR_HUNDRED, "short", "a" * count))

    def test_all_signs(self):
        pattern = again(pick(("sign", SIGNS), row(("sign", SIGNS[:40]), ("sign", SIGNS[30:]))))
        for taste in LEANING:
            table = table_of(pattern, taste)
            self.assertEqual(list(table[0][2]), list(SIGNS))
            for k in range(0, 90, 7):
                text = SIGNS[k:k + 5] + SIGNS[k::-1][:5]
                self.assertEqual(told_by(pattern, table, text), walked(pattern, taste, text))

    def test_many_signs_and_rows_by_each_taste(self):
        pattern = row(again(pick(row(A, B), row(A, B, C), C)), pick(row(B, C), BLANK), again(held("x", C)))
        for taste in LEANING:
            table = table_of(pattern, taste)
            for text in texts_up_to("abc", 5):
                self.assertEqual(told_by(pattern, table, text), walked(pattern, taste, text))


class Refusals(unittest.TestCase):
    def test_no_taste_ahead_of_all_else(self):
        for pattern in (A, OVERFULL, HUGE_ONES[0], ONE_ROW_MORE):
            for thing in NO_TASTES + ("cheap",):
                with self.assertRaises(NoTaste):
                    table_of(pattern, thing)

    def test_too_many(self):
        for pattern in (OVERFULL, OVERFULL_BLANKS) + HUGE_ONES:
            for taste in LEANING:
                with self.assertRaises(TooMany):
                    table_of(pattern, taste)
            for text in ("", "a", "ccc"):
                with self.assertRaises(TooMany):
                    told_by(pattern, table_of(A, "first"), text)
        for taste in LEANING:
            self.assertEqual(table_of(FULL_BLANKS, taste), [((), (None, blanks(FULL_BLANKS)[0]), {})])


class Own(unittest.TestCase):
    def test_what_is_told_is_changed_and_asked_for_again(self):
        pattern = row(again(A), again(AB), B)
        for taste in LEANING:
            table = table_of(pattern, taste)
            kept = copy.deepcopy(table)
            for one in table:
                one[2].clear()
            table.append(0)
            self.assertEqual(table_of(pattern, taste), kept)

    # One dict is not to be that of two rows.
    def test_each_dict_is_its_own(self):
        table = table_of(row(A, B, A, B), "first")
        table[1][2]["x"] = 5
        self.assertEqual([len(one[2]) for one in table], [1, 2, 1, 1, 0])

    def test_nothing_handed_in_is_changed(self):
        pattern = row(again(A), again(AB), B)
        table = table_of(pattern, "long")
        kept = copy.deepcopy(table)
        for text in ("", "a", "aab", "c"):
            told_by(pattern, table, text)
        self.assertEqual(table, kept)


if __name__ == "__main__":
    unittest.main()
