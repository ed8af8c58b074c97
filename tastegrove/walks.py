"""Walks: a text taken sign by sign, with the one beginning kept for each place that is ahead of all others there."""

from tastegrove.leans import exchanged, gone_on, standing_of
from tastegrove.places import places_of
from tastegrove.runs import tree_of
from tastegrove.tastes import check_taste
from tastegrove.trails import Trails


# A way on is a pair (place, trail): the place of a kept beginning and a trail from there; None stands for the place
# ahead of the first sign.
class Walk:
    def __init__(self, pattern, taste):
        check_taste(taste)
        self.pattern = pattern
        self.is_cheap = taste == "cheap"
        # Beginnings of one price lean as by first.
        self.leaning = "first" if self.is_cheap else taste
        self.trails = Trails(pattern)
        self.place_signs = places_of(pattern)
        self.signs = ""
        # For each sign so far a dict, from the places kept behind it to the way on by which each was come to.
        self.rows = []
        # By the kept places the prices of their beginnings, and by each two of them their standing.
        self.prices = {None: 0}
        self.standings = {}

    def take(self, sign):
        arrivals = {}
        for way in self.ways_by(self.trails.starts, self.trails.steps):
            place = way[1].place
            if sign in self.place_signs[place]:
                arrivals.setdefault(place, []).append(way)
        row = {}
        for place in sorted(arrivals):
            row[place] = self.foremost(arrivals[place])
        standings = self.standings_among(row)
        prices = {}
        for place in row:
            prices[place] = self.price_with(row[place])
        self.signs += sign
        self.rows.append(row)
        self.prices = prices
        self.standings = standings

    def text(self):
        return self.signs

    def kept(self):
        return list(self.rows[-1]) if len(self.rows) > 0 else []

    def beginning(self, place):
        steps = []
        at = place
        for row in self.rows[::-1]:
            way = row[at]
            steps.append(way[1].as_step())
            at = way[0]
        return steps[::-1]

    def told(self):
        endings = self.ways_by(self.trails.blanks, self.trails.ends)
        if len(endings) == 0:
            return None
        way = self.foremost(endings)
        run = (self.beginning(way[0]), way[1].as_end())
        return tree_of(self.pattern, self.signs, run)

    # By the trails ahead of a first sign, or else by those of the kept places.
    def ways_by(self, first, by_places):
        if len(self.rows) == 0:
            return [(None, trail) for trail in first]
        ways = []
        for place in self.kept():
            ways.extend([(place, trail) for trail in by_places[place]])
        return ways

    def price_with(self, way):
        return self.prices[way[0]] + way[1].price

    # Of two unlike ways on.
    def standing_with(self, one, other):
        if one[0] == other[0]:
            return standing_of(self.leaning, one[1], other[1])
        return gone_on(self.leaning, self.standings[(one[0], other[0])], one[1], other[1])

    def is_way_ahead(self, one, other):
        if self.is_cheap and self.price_with(one) != self.price_with(other):
            return self.price_with(one) < self.price_with(other)
        return self.standing_with(one, other)[1] == 0

    def foremost(self, ways):
        best = ways[0]
        for way in ways[1:]:
            if self.is_way_ahead(way, best):
                best = way
        return best

    # Of each two places of the row, either one first.
    def standings_among(self, row):
        standings = {}
        for place in row:
            for other in row:
                if place < other:
                    standing = self.standing_with(row[place], row[other])
                    standings[(place, other)] = standing
                    standings[(other, place)] = exchanged(standing)
        return standings


def walked(pattern, taste, text):
    walk = Walk(pattern, taste)
    for sign in text:
        walk.take(sign)
    return walk.told()
