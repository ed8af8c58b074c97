"""5.1, and 0.2 and 0.3 as far as they speak of it: places, starts, blanks, steps, ends."""

import unittest

from tastegrove.errors import GroveError, TooMany
from tastegrove.patterns import is_pattern
from tastegrove.places import blanks, ends, places_of, reached, starts, steps
from tests.samples import (A, AB, B, BLANK, FULL, FULL_BLANKS, HUGE_BUT_WITHOUT_TEXTS, HUGE_ONES, NONE, OVERFULL,
                           OVERFULL_BLANKS, PATTERNS, SIGNS, again, chance_patterns, held, pick, price, row, sign_makes,
                           slow_trees, texts_up_to, trails_in, trees_of_two_turns)


def all_of(pattern):
    places = range(len(places_of(pattern)))
    return (starts(pattern), blanks(pattern), [steps(pattern, place) for place in places],
            [ends(pattern, place) for place in places])


def lists_of(pattern):
    whole = all_of(pattern)
    return [whole[0], whole[1]] + whole[2] + whole[3]


# Sorted by marks; these stand behind the place, where there is one.
def by_marks(trails):
    return sorted(trails, key=lambda trail: trail[-2])


class Places(unittest.TestCase):
    def test_places_of(self):
        table = ((NONE, []), (BLANK, []), (A, ["a"]), (row(A, AB, B), ["a", "ab", "b"]), (pick(B, A), ["b", "a"]),
                 (again(AB), ["ab"]), (held("x", A), ["a"]), (price(3, A), ["a"]), (row(A, A), ["a", "a"]),
                 (row(pick(A, row(B, NONE)), again(pick(AB, A))), ["a", "b", "ab", "a"]),
                 (row(A, NONE), ["a"]), (("sign", SIGNS), [SIGNS]))
        for pattern, places in table:
            self.assertEqual(places_of(pattern), places)
            self.assertIs(type(places_of(pattern)), list)

    def test_each_kind(self):
        table = (
            (NONE, [], [], [], []),
            (BLANK, [], [((), 0)], [], []),
            (AB, [(0, (), 0)], [], [[]], [[((), 0)]]),
            (row(A, B), [(0, (), 0)], [], [[(1, (), 0)], []], [[], [((), 0)]]),
            (row(BLANK, BLANK), [], [((), 0)], [], []),
            (pick(A, BLANK, B), [(0, (0,), 0), (1, (2,), 0)], [((1,), 0)], [[], []], [[((), 0)], [((), 0)]]),
            (again(A), [(0, (0,), 0)], [((1,), 0)], [[(0, (0,), 0)]], [[((1,), 0)]]),
            (again(NONE), [], [((1,), 0)], [], []),
            (held("x", A), [(0, (), 0)], [], [[]], [[((), 0)]]),
            (held("x", BLANK), [], [((), 0)], [], []),
            (price(5, A), [(0, (), 5)], [], [[]], [[((), 0)]]),
            (price(5, BLANK), [], [((), 5)], [], []))
        for pattern, first, without, further, last in table:
            self.assertEqual(all_of(pattern), (first, without, further, last))

    def test_rows_with_blanks_between(self):
        pattern = row(pick(BLANK, A), pick(BLANK, BLANK), pick(B, BLANK))
        self.assertEqual(starts(pattern), [(1, (0, 0, 0), 0), (1, (0, 1, 0), 0), (0, (1,), 0)])
        self.assertEqual(blanks(pattern), [((0, 0, 1), 0), ((0, 1, 1), 0)])
        self.assertEqual(steps(pattern, 0), [(1, (0, 0), 0), (1, (1, 0), 0)])
        self.assertEqual(steps(pattern, 1), [])
        self.assertEqual(ends(pattern, 0), [((0, 1), 0), ((1, 1), 0)])
        self.assertEqual(ends(pattern, 1), [((), 0)])

    def test_agains_within_agains(self):
        pattern = again(row(A, again(B)))
        self.assertEqual(starts(pattern), [(0, (0,), 0)])
        self.assertEqual(blanks(pattern), [((1,), 0)])
        for place in (0, 1):
            self.assertEqual(steps(pattern, place), [(1, (0,), 0), (0, (1, 0), 0)])
            self.assertEqual(ends(pattern, place), [((1, 1), 0)])
        pattern = again(row(again(A), B))
        self.assertEqual(starts(pattern), [(0, (0, 0), 0), (1, (0, 1), 0)])
        self.assertEqual(steps(pattern, 0), [(0, (0,), 0), (1, (1,), 0)])
        self.assertEqual(steps(pattern, 1), [(0, (0, 0), 0), (1, (0, 1), 0)])
        self.assertEqual((ends(pattern, 0), ends(pattern, 1)), ([], [((1,), 0)]))

    def test_likes_that_stand_more_than_once(self):
        pattern = pick(A, row(A, A), A)
        self.assertEqual(starts(pattern), [(0, (0,), 0), (1, (1,), 0), (3, (2,), 0)])
        self.assertEqual([steps(pattern, place) for place in range(4)], [[], [(2, (), 0)], [], []])
        self.assertEqual([ends(pattern, place) for place in range(4)], [[((), 0)], [], [((), 0)], [((), 0)]])

    def test_prices_are_those_begun_between(self):
        pattern = price(7, row(price(1, A), price(20, BLANK), price(300, pick(price(1000, B), BLANK)),
                               price(50, BLANK)))
        self.assertEqual(starts(pattern), [(0, (), 8)])
        self.assertEqual(steps(pattern, 0), [(1, (0,), 1320)])
        self.assertEqual(ends(pattern, 0), [((1,), 370)])
        self.assertEqual(ends(pattern, 1), [((), 50)])
        pattern = price(2, again(price(3, row(price(5, A), B))))
        self.assertEqual((starts(pattern), blanks(pattern)), ([(0, (0,), 10)], [((1,), 2)]))
        self.assertEqual((steps(pattern, 0), steps(pattern, 1)), ([(1, (), 0)], [(0, (0,), 8)]))
        self.assertEqual(ends(pattern, 1), [((1,), 0)])
        pattern = price(1, price(10, price(100, BLANK)))
        self.assertEqual(blanks(pattern), [((), 111)])

    def test_none_deep_within(self):
        for pattern in (row(A, NONE), row(NONE, A), row(A, row(B, held("x", NONE)), A), price(3, row(A, NONE)),
                        pick(row(A, NONE), row(NONE, B)), row(again(A), pick(NONE, NONE))):
            self.assertEqual([trails for trails in lists_of(pattern) if trails], [])
            self.assertEqual(reached(pattern), [])
        pattern = row(pick(row(A, NONE), A), again(row(B, NONE)), again(pick(NONE, B)))
        self.assertEqual(starts(pattern), [(1, (1,), 0)])
        self.assertEqual([steps(pattern, place) for place in range(4)], [[], [(3, (1, 0, 1), 0)], [], [(3, (0, 1), 0)]])
        self.assertEqual([ends(pattern, place) for place in range(4)], [[], [((1, 1), 0)], [], [((1,), 0)]])
        self.assertEqual(reached(pattern), [1, 3])
        self.assertEqual(reached(HUGE_BUT_WITHOUT_TEXTS), [0])
        self.assertEqual(starts(HUGE_BUT_WITHOUT_TEXTS), [(0, (1,), 0)])

    def test_just_those_of_all_trees(self):
        looked_at = 0
        for pattern in PATTERNS + tuple(chance_patterns(71, 700, 4)):
            trees = trees_of_two_turns(pattern, 3000)
            if trees is None:
                continue
            looked_at += 1
            first, without, further, last = trails_in(pattern, trees)
            self.assertEqual(starts(pattern), by_marks(first))
            self.assertEqual(blanks(pattern), by_marks(without))
            for place in range(sign_makes(pattern)):
                self.assertEqual(steps(pattern, place), by_marks(further[place]), pattern)
                self.assertEqual(ends(pattern, place), by_marks(last[place]), pattern)
        self.assertGreater(looked_at, 600)

    def test_just_those_of_the_trees_of_small_texts(self):
        small = [pattern for pattern in PATTERNS if pattern != ("sign", SIGNS)]
        for pattern in small:
            trees = [tree for text in texts_up_to("ab", 6) for tree in slow_trees(pattern, text)]
            first, without, further, last = trails_in(pattern, trees)
            self.assertEqual(all_of(pattern), (by_marks(first), by_marks(without), [by_marks(one) for one in further],
                                               [by_marks(one) for one in last]))

    def test_sorted_by_marks_and_no_two_the_same(self):
        for pattern in PATTERNS + tuple(chance_patterns(72, 300, 4)):
            for trails in lists_of(pattern):
                marks = [trail[-2] for trail in trails]
                self.assertEqual(marks, sorted(marks))
                self.assertEqual(len(marks), len(set(marks)))

    def test_kinds(self):
        for pattern in PATTERNS:
            first, without, further, last = all_of(pattern)
            for trails in [first] + further:
                self.assertIs(type(trails), list)
                for trail in trails:
                    self.assertIs(type(trail), tuple)
                    self.assertEqual([type(one) for one in trail], [int, tuple, int])
            for trails in [without] + last:
                self.assertIs(type(trails), list)
                for trail in trails:
                    self.assertIs(type(trail), tuple)
                    self.assertEqual([type(one) for one in trail], [tuple, int])


class Reached(unittest.TestCase):
    def test_those_of_all_trees(self):
        for pattern in PATTERNS + tuple(chance_patterns(73, 500, 4)):
            trees = trees_of_two_turns(pattern, 2000)
            if trees is not None:
                first, without, further, last = trails_in(pattern, trees)
                places = {start[0] for start in first} | {step[0] for one in further for step in one}
                self.assertEqual(reached(pattern), sorted(places))
                self.assertIs(type(reached(pattern)), list)

    def test_a_place_that_is_not_has_none(self):
        for pattern in PATTERNS + tuple(chance_patterns(74, 300, 4)):
            come_to = reached(pattern)
            for place in range(sign_makes(pattern)):
                self.assertEqual(place in come_to, steps(pattern, place) != [] or ends(pattern, place) != [])
                for step in steps(pattern, place):
                    self.assertIn(step[0], come_to)

    def test_from_each_an_end_can_be_come_to(self):
        for pattern in PATTERNS + tuple(chance_patterns(75, 300, 4)):
            ending = {place for place in reached(pattern) if ends(pattern, place)}
            for k in range(sign_makes(pattern)):
                ending |= {place for place in reached(pattern) if any(step[0] in ending for step in steps(pattern, place))}
            self.assertEqual(sorted(ending), reached(pattern))


class HowMany(unittest.TestCase):
    def refused(self, pattern):
        asked = [lambda: starts(pattern), lambda: blanks(pattern), lambda: reached(pattern)]
        for place in range(min(2, len(places_of(pattern)))):
            asked += [lambda at=place: steps(pattern, at), lambda at=place: ends(pattern, at)]
        for ask in asked:
            with self.assertRaises(TooMany):
                ask()
            with self.assertRaises(GroveError):
                ask()

    def test_three_hundred_and_one_more(self):
        for full, over in ((FULL_BLANKS, OVERFULL_BLANKS), (FULL, OVERFULL), (held("x", FULL), price(3, OVERFULL))):
            self.assertIs(is_pattern(full), True)
            self.assertIs(is_pattern(over), True)
            self.assertEqual(sum(len(trails) for trails in lists_of(full)), 300)
            self.assertEqual(reached(full), list(range(sign_makes(full))))
            self.refused(over)

    def test_each_kind_of_them_counts(self):
        # So many blanks in a row have 300 ways, ahead of a sign, behind one, and between two.
        picks, fewer = FULL_BLANKS[1], FULL_BLANKS[1][:3] + (pick(BLANK, BLANK),)
        for ahead, behind, count in (((), (A,), 201), ((A,), (), 201), ((A,), (A,), 202), ((), (), 200)):
            self.assertEqual(sum(len(trails) for trails in lists_of(row(*ahead, *fewer, *behind))), count)
            if ahead or behind:
                self.refused(row(*ahead, *picks, *behind))

    def test_what_no_tree_goes_by_does_not_count(self):
        self.assertEqual(starts(HUGE_BUT_WITHOUT_TEXTS), [(0, (1,), 0)])
        self.assertEqual(blanks(row(NONE, OVERFULL_BLANKS)), [])
        self.assertEqual(blanks(pick(row(NONE, OVERFULL_BLANKS), FULL_BLANKS))[-1], ((1, 4, 4, 3, 2), 0))

    def test_very_many_are_refused_at_once(self):
        for pattern in HUGE_ONES:
            self.refused(pattern)

    def test_places_of_does_not_refuse(self):
        self.assertEqual(places_of(OVERFULL), ["a"] * 12 + ["ab"] * 4)
        self.assertEqual(places_of(OVERFULL_BLANKS), [])
        self.assertEqual(places_of(HUGE_ONES[1]), ["a", "a"])
        self.assertEqual(places_of(HUGE_ONES[3]), ["a", "a"])


class AskersOwn(unittest.TestCase):
    def test_what_is_told_is_changed_and_asked_for_again(self):
        for pattern in PATTERNS:
            asked = [lambda: places_of(pattern), lambda: starts(pattern), lambda: blanks(pattern),
                     lambda: reached(pattern)]
            for place in range(sign_makes(pattern)):
                asked += [lambda at=place: steps(pattern, at), lambda at=place: ends(pattern, at)]
            before = [ask() for ask in asked]
            for ask in asked:
                told = ask()
                told.append("x")
                told[0] = None
                told.reverse()
            self.assertEqual([ask() for ask in asked], before)
            for ask in asked:
                ask().clear()
            self.assertEqual([ask() for ask in asked[::-1]], before[::-1])


if __name__ == "__main__":
    unittest.main()
