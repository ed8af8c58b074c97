"""Keeps: for each place the one beginning of a text that is ahead of all others there, and how it is gone on with."""

from tastegrove.leans import exchanged, gone_on, standing_of
from tastegrove.places import places_of
from tastegrove.trails import Trails


# What is known of the beginnings kept for one text: their places, which rise, or None alone for the text without signs;
# by these their prices, and by each two of them, either one first, their standing.
class Stand:
    def __init__(self, places, prices, standings):
        self.places = places
        self.prices = prices
        self.standings = standings


# A way on is a pair (place, trail): the place of a kept beginning, or None, and a trail from there.
class Keeper:
    def __init__(self, pattern, taste):
        self.is_cheap = taste == "cheap"
        # Beginnings of one price lean as by first.
        self.leaning = "first" if self.is_cheap else taste
        self.trails = Trails(pattern)
        self.place_signs = places_of(pattern)

    def begun(self):
        return Stand([None], {None: 0}, {})

    def places_with(self, sign):
        return [place for place, signs in enumerate(self.place_signs) if sign in signs]

    # By those of the places to which steps lead, rising, the way on to each that is ahead of all others.
    def ways_to(self, stand, places):
        arrivals = {}
        for way in self.ways_from(stand, self.trails.starts, self.trails.steps):
            if way[1].place in places:
                arrivals.setdefault(way[1].place, []).append(way)
        ways = {}
        for place in sorted(arrivals):
            ways[place] = self.foremost(stand, arrivals[place])
        return ways

    # The way to an end that is ahead of all others, or None.
    def ending(self, stand):
        endings = self.ways_from(stand, self.trails.blanks, self.trails.ends)
        return self.foremost(stand, endings) if len(endings) > 0 else None

    # What is known with one sign more, by which these ways lead to their places.
    def stand_behind(self, stand, ways):
        prices = {}
        for place in ways:
            prices[place] = self.price_with(stand, ways[place])
        return Stand(list(ways), prices, self.standings_among(stand, ways))

    # By the trails ahead of a first sign, or by those of the kept places.
    def ways_from(self, stand, first, by_places):
        ways = []
        for place in stand.places:
            ways.extend([(place, trail) for trail in (first if place is None else by_places[place])])
        return ways

    def price_with(self, stand, way):
        return stand.prices[way[0]] + way[1].price

    # Of two unlike ways on.
    def standing_with(self, stand, one, other):
        if one[0] == other[0]:
            return standing_of(self.leaning, one[1], other[1])
        return gone_on(self.leaning, stand.standings[(one[0], other[0])], one[1], other[1])

    def is_way_ahead(self, stand, one, other):
        if self.is_cheap and self.price_with(stand, one) != self.price_with(stand, other):
            return self.price_with(stand, one) < self.price_with(stand, other)
        return self.standing_with(stand, one, other)[1] == 0

    def foremost(self, stand, ways):
        best = ways[0]
        for way in ways[1:]:
            if self.is_way_ahead(stand, way, best):
                best = way
        return best

    def standings_among(self, stand, ways):
        standings = {}
        for place in ways:
            for other in ways:
                if place < other:
                    standing = self.standing_with(stand, ways[place], ways[other])
                    standings[(place, other)] = standing
                    standings[(other, place)] = exchanged(standing)
        return standings
