"""Twos: the least text of a pattern with two trees, or a paper that no text has two."""

from tastegrove.meets import Meets, paper_found
from tastegrove.numbers import tree_at
from tastegrove.search import Search
from tastegrove.trails import Trails


# Of two unlike beginnings the places are known, the lesser one first.
class ByPlaces:
    def __init__(self, trails):
        self.trails = trails

    def forked(self, one, other):
        return (min(one.place, other.place), max(one.place, other.place))

    def followed(self, known, one, other):
        return self.forked(one, other)

    # Whether two trees may end so.
    def does_end(self, known):
        if known == (None,):
            return len(self.trails.blanks) > 1
        if len(known) == 1:
            return len(self.trails.ends[known[0]]) > 1
        return all([len(self.trails.ends[place]) > 0 for place in known])


def two_trees(pattern):
    trails = Trails(pattern)
    search = Search((None,), Meets(pattern, trails, ByPlaces(trails)))
    sought = search.seek(None)
    if sought is None:
        return ("one", paper_found(search))
    text = search.found[sought][0]
    return ("two", text, tree_at(pattern, text, 0), tree_at(pattern, text, 1))


def lets_one(pattern, paper):
    trails = Trails(pattern)
    view = ByPlaces(trails)
    count = len(trails.ends)
    if any([not 0 <= pair[0] <= pair[1] < count for pair in paper]):
        return False
    if any([view.does_end((place,)) for place in [None] + list(range(count))]):
        return False
    return Meets(pattern, trails, view).is_shut(paper)
