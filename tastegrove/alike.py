"""Alike: the least text of which two tastes tell unlike trees, or a paper that there is none."""

from tastegrove.search import Search
from tastegrove.tables import table_of
from tastegrove.tastes import check_leaning

MOST_TRIPLES = 2000
# That of the text without signs.
FIRST_TRIPLE = (0, 0, ())


# Two tables gone through by one text. A triple is (row of the one, row of the other, places): at these places both
# walks keep the same beginning.
class Tables:
    def __init__(self, one, other):
        self.one = one
        self.other = other

    def is_triple(self, triple):
        return 0 <= triple[0] < len(self.one) and 0 <= triple[1] < len(self.other)

    # The moves from the rows of a triple, by both tables.
    def moves_of(self, triple):
        return (self.one[triple[0]][2], self.other[triple[1]][2])

    # Whether the tables tell unlike trees there.
    def is_sought(self, triple):
        end = self.one[triple[0]][1]
        if end != self.other[triple[1]][1]:
            return True
        return end is not None and end[0] is not None and end[0] not in triple[2]

    # The triple behind a sign for which both have a move.
    def behind(self, triple, sign):
        moves = self.moves_of(triple)
        one = moves[0][sign]
        other = moves[1][sign]
        froms = dict(zip(self.one[one[0]][0], one[1]))
        others = dict(zip(self.other[other[0]][0], other[1]))
        places = []
        for place in froms:
            came_from = froms[place][0]
            if froms[place] == others.get(place) and (came_from is None or came_from in triple[2]):
                places.append(place)
        return (one[0], other[0], tuple(places))

    # Both tables keep the same places by one text, and so have moves for the same signs. Signs that lead to the same
    # two rows have the same froms: of these the least one is enough.
    def onward(self, triple):
        moves = self.moves_of(triple)
        found = []
        seen = {}
        for sign in sorted(moves[0]):
            rows = (moves[0][sign][0], moves[1][sign][0])
            if rows not in seen:
                seen[rows] = True
                found.append((sign, self.behind(triple, sign), None))
        return found


def tables_of(pattern, one, other):
    check_leaning(one)
    check_leaning(other)
    return Tables(table_of(pattern, one), table_of(pattern, other))


def told_apart(pattern, one, other):
    search = Search(FIRST_TRIPLE, tables_of(pattern, one, other))
    sought = search.seek(MOST_TRIPLES)
    if sought is None:
        return ("same", list(search.found))
    return ("apart", search.found[sought][0])


# Whether nothing is told apart at the triple, and all that follows on it is in the paper, a dict of triples.
def is_triple_shut(tables, triple, paper):
    moves = tables.moves_of(triple)
    if tables.is_sought(triple) or sorted(moves[0]) != sorted(moves[1]):
        return False
    return all([tables.behind(triple, sign) in paper for sign in moves[0]])


def lets_same(pattern, one, other, paper):
    tables = tables_of(pattern, one, other)
    has = {}
    for triple in paper:
        if not tables.is_triple(triple):
            return False
        has[(triple[0], triple[1], tuple(triple[2]))] = True
    return FIRST_TRIPLE in has and all([is_triple_shut(tables, triple, has) for triple in has])
