"""What stages 8, 9, 11 and 13 rest on: things are found by the least texts that come to them, in the order of these."""

import random
import unittest

from tastegrove.errors import TooMany
from tastegrove.search import Search
from tests.samples import texts_up_to


# Leads from numbers to numbers by rows (from, sign, to).
class Rows:
    def __init__(self, rows, sought):
        self.rows = rows
        self.sought = sought

    def onward(self, thing):
        return [(sign, to, (thing, sign)) for at, sign, to in self.rows if at == thing]

    def is_sought(self, thing):
        return thing in self.sought


# All things come to by the text.
def come_to(rows, text):
    things = {0}
    for sign in text:
        things = {to for at, other, to in rows if at in things and other == sign}
    return things


class LeastTexts(unittest.TestCase):
    def test_by_chance(self):
        source = random.Random(181)
        texts = texts_up_to("abc", 5)
        for k in range(400):
            rows = [(source.randrange(6), source.choice("abc"), source.randrange(6)) for n in range(source.randint(1, 10))]
            search = Search(0, Rows(rows, []))
            self.assertIsNone(search.seek(None))
            least = {}
            for text in texts:
                for thing in sorted(come_to(rows, text)):
                    least.setdefault(thing, text)
            self.assertEqual({thing: search.found[thing][0] for thing in search.found}, least)
            found = [search.found[thing][0] for thing in search.found]
            self.assertEqual(found, sorted(found, key=lambda text: (len(text), text)))
            for thing in search.found:
                led = search.led_by(thing)
                self.assertEqual("".join(sign for ahead, sign in led), least[thing])
                places = [ahead for ahead, sign in led] + [thing]
                self.assertEqual(places[0], 0)
                for at, sign, to in zip(places, least[thing], places[1:]):
                    self.assertIn((at, sign, to), rows)

    def test_one_text_to_several_things(self):
        # From 1 by b alone, from 2 by a: both are come to by a, so aa is ahead of ab.
        rows = [(0, "a", 1), (0, "a", 2), (1, "b", 3), (2, "a", 4), (4, "a", 5), (3, "a", 5)]
        search = Search(0, Rows(rows, [5]))
        self.assertEqual(search.seek(None), 5)
        self.assertEqual(search.found[5][0], "aaa")
        search = Search(0, Rows(rows, [3, 4]))
        self.assertEqual(search.seek(None), 4)

    def test_one_thing_by_two_signs(self):
        for rows in ([(0, "a", 1), (0, "b", 1), (1, "a", 2)], [(0, "b", 1), (0, "a", 1), (1, "a", 2)]):
            search = Search(0, Rows(rows, [2]))
            self.assertEqual(search.seek(None), 2)
            self.assertEqual([search.found[thing][0] for thing in (0, 1, 2)], ["", "a", "aa"])

    def test_the_first_one_may_be_sought(self):
        search = Search(0, Rows([(0, "a", 1)], [0, 1]))
        self.assertEqual((search.seek(None), search.found[0][0], search.led_by(0)), (0, "", []))

    def test_most(self):
        rows = [(k, "a", k + 1) for k in range(9)]
        self.assertIsNone(Search(0, Rows(rows, [])).seek(10))
        for most in (1, 5, 9):
            with self.assertRaises(TooMany):
                Search(0, Rows(rows, [])).seek(most)
            # One more is told where it is sought, as it is not ahead of that.
            self.assertEqual(Search(0, Rows(rows, [most])).seek(most), most)
        with self.assertRaises(TooMany):
            Search(0, Rows(rows, [6])).seek(5)


if __name__ == "__main__":
    unittest.main()
