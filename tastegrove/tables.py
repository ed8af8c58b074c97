"""Tables: the walks of a pattern over all texts, made ahead as rows between which signs lead."""

from tastegrove.errors import TooMany
from tastegrove.keeps import Keeper
from tastegrove.patterns import signs_of
from tastegrove.runs import tree_of
from tastegrove.tastes import check_leaning
from tastegrove.trails import check_trails

MOST_ROWS = 400


class Tabling:
    def __init__(self, pattern, taste):
        self.keeper = Keeper(pattern, taste)
        self.signs = signs_of(pattern)
        self.are_rooms_told = taste in ("long", "short")
        # By the numbers of the rows what is known of the beginnings kept there.
        self.stands = [self.keeper.begun()]
        # From what tells rows apart to their numbers; no text that has signs comes to row 0.
        self.numbers = {}

    # What tells the row of a stand from others.
    def name_of(self, stand):
        standings = []
        for place in stand.places:
            for other in stand.places:
                if place < other:
                    standing = stand.standings[(place, other)]
                    standings.append(standing if self.are_rooms_told else standing[1])
        return (tuple(stand.places), tuple(standings))

    def number_of_row(self, stand):
        name = self.name_of(stand)
        if name not in self.numbers:
            if len(self.stands) == MOST_ROWS:
                raise TooMany("the table has too many rows")
            self.numbers[name] = len(self.stands)
            self.stands.append(stand)
        return self.numbers[name]

    def move_by(self, stand, ways):
        froms = [(way[0], way[1].as_step()) for way in ways.values()]
        return (self.number_of_row(self.keeper.stand_behind(stand, ways)), tuple(froms))

    def moves_from(self, stand):
        ways = self.keeper.ways_to(stand, list(range(len(self.keeper.place_signs))))
        moves = {}
        # Signs of the same places make the same move.
        by_places = {}
        for sign in self.signs:
            places = tuple([place for place in self.keeper.places_with(sign) if place in ways])
            if len(places) > 0 and places not in by_places:
                by_places[places] = self.move_by(stand, dict([(place, ways[place]) for place in places]))
            if len(places) > 0:
                moves[sign] = by_places[places]
        return moves

    def row_of(self, stand):
        kept = [place for place in stand.places if place is not None]
        way = self.keeper.ending(stand)
        end = None if way is None else (way[0], way[1].as_end())
        return (tuple(kept), end, self.moves_from(stand))


def table_of(pattern, taste):
    check_leaning(taste)
    tabling = Tabling(pattern, taste)
    table = []
    # From row to row, by rising signs, the least texts come first.
    while len(table) < len(tabling.stands):
        table.append(tabling.row_of(tabling.stands[len(table)]))
    return table


# The steps by which the beginning goes that is kept at the place behind the last move; each move is a pair: the kept
# places of the row that it leads to, and its froms.
def steps_back(moves, place):
    steps = []
    at = place
    for kept, froms in moves[::-1]:
        pair = froms[kept.index(at)]
        steps.append(pair[1])
        at = pair[0]
    return steps[::-1]


def told_by(pattern, table, text):
    check_trails(pattern)
    row = table[0]
    moves = []
    for sign in text:
        if sign not in row[2]:
            return None
        move = row[2][sign]
        row = table[move[0]]
        moves.append((row[0], move[1]))
    end = row[1]
    return None if end is None else tree_of(pattern, text, (steps_back(moves, end[0]), end[1]))
