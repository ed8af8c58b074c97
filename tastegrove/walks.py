"""Walks: a text taken sign by sign, with the one beginning kept for each place that is ahead of all others there."""

from tastegrove.keeps import Keeper
from tastegrove.runs import tree_of
from tastegrove.tastes import check_taste


class Walk:
    def __init__(self, pattern, taste):
        check_taste(taste)
        self.pattern = pattern
        self.keeper = Keeper(pattern, taste)
        self.begin()

    # Goes back to the text without signs.
    def begin(self):
        self.stand = self.keeper.begun()
        self.signs = ""
        # For each sign so far a dict, from the places kept behind it to the way on by which each was come to.
        self.rows = []

    def take(self, sign):
        ways = self.keeper.ways_to(self.stand, self.keeper.places_with(sign))
        self.stand = self.keeper.stand_behind(self.stand, ways)
        self.signs += sign
        self.rows.append(ways)

    def text(self):
        return self.signs

    def kept(self):
        return list(self.rows[-1]) if len(self.rows) > 0 else []

    def beginning(self, place):
        steps = []
        at = place
        for row in self.rows[::-1]:
            way = row[at]
            steps.append(way[1].as_step())
            at = way[0]
        return steps[::-1]

    def told(self):
        way = self.keeper.ending(self.stand)
        if way is None:
            return None
        run = (self.beginning(way[0]), way[1].as_end())
        return tree_of(self.pattern, self.signs, run)


def walked(pattern, taste, text):
    walk = Walk(pattern, taste)
    for sign in text:
        walk.take(sign)
    return walk.told()
