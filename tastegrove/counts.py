"""Counts: how many trees each make has over each stretch of a text."""

from tastegrove.patterns import makes_of, parts_of


# Both are dicts from places of the text to numbers of ways; those that are nought are left out.
def add_ways(ways, more, times):
    for place in more:
        ways[place] = ways.get(place, 0) + more[place] * times


# For each make, by its number, and each place of the text a dict: from the ends of the stretches that begin there
# to how many trees of the make have this stretch.
class Counts:
    def __init__(self, pattern, text):
        self.signs = text
        self.makes = makes_of(pattern)
        self.parts = parts_of(pattern)
        self.table = [{} for make in self.makes]
        # Parts have greater numbers than what they are parts of, and what comes behind a stretch begins no
        # further left: so, going down, all that is asked for is there.
        for at in range(len(text), -1, -1):
            for number in range(len(self.makes) - 1, -1, -1):
                self.table[number][at] = self.count_from(number, at)

    def ends_of(self, number, at):
        return self.table[number][at]

    # How many trees the whole text has.
    def total(self):
        return self.table[0][0].get(len(self.signs), 0)

    def count_from(self, number, at):
        make = self.makes[number]
        kind = make[0]
        if kind == "none":
            return {}
        if kind == "sign":
            return {at + 1: 1} if at < len(self.signs) and self.signs[at] in make[1] else {}
        if kind == "pick":
            return self.count_pick(number, at)
        if kind == "again":
            return self.count_again(number, at)
        return self.count_row(number, at)

    # Blank, held and price are counted like rows, of no part and of one.
    def count_row(self, number, at):
        ways = {at: 1}
        for part in self.parts[number]:
            further = {}
            for place in ways:
                add_ways(further, self.table[part][place], ways[place])
            ways = further
        return ways

    def count_pick(self, number, at):
        ways = {}
        for part in self.parts[number]:
            add_ways(ways, self.table[part][at], 1)
        return ways

    def count_again(self, number, at):
        ways = {at: 1}
        turns = self.table[self.parts[number][0]][at]
        for place in turns:
            add_ways(ways, self.table[number][place], turns[place])
        return ways


def many(pattern, text):
    return Counts(pattern, text).total()


def fits(pattern, text):
    return many(pattern, text) > 0
