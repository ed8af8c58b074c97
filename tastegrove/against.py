"""Against: the least text of which two tastes put some two trees otherwise, or a paper that no text has such two."""

from tastegrove.leans import gone_on, standing_of
from tastegrove.meets import Meets, paper_found
from tastegrove.runs import tree_of
from tastegrove.search import Search
from tastegrove.tastes import check_leaning
from tastegrove.trails import Trails, rooms_of_places


# Of two unlike beginnings is known (p, q, common, lean, lean): their places, that of the one with lesser marks first,
# how many rooms they have in common, and how they lean by the two tastes.
class ByLeans:
    def __init__(self, trails, one, other):
        self.trails = trails
        self.one_taste = one
        self.other_taste = other

    def forked(self, one, other):
        first = standing_of(self.one_taste, one, other)
        second = standing_of(self.other_taste, one, other)
        return (one.place, other.place, first[0], first[1], second[1])

    def followed(self, known, one, other):
        first = gone_on(self.one_taste, (known[2], known[3]), one, other)
        second = gone_on(self.other_taste, (known[2], known[4]), one, other)
        return (one.place, other.place, first[0], first[1], second[1])

    # Whether two trees may end so that the tastes put otherwise. Beginnings that are alike end in trees that all tastes
    # put alike: these differ in a pick alone, over one stretch.
    def does_end(self, known):
        if len(known) == 1 or known[3] == known[4]:
            return False
        return all([len(self.trails.ends[place]) > 0 for place in known[:2]])


# The tree of one of the two beginnings, the first or the second, by which what is known was come to.
def tree_led(pattern, trails, search, known, which):
    steps = [by[which].as_step() for by in search.led_by(known)]
    end = trails.ends[known[which]][0].as_end()
    return tree_of(pattern, search.found[known][0], (steps, end))


def held_against(pattern, one, other):
    check_leaning(one)
    check_leaning(other)
    trails = Trails(pattern)
    search = Search((None,), Meets(pattern, trails, ByLeans(trails, one, other)))
    sought = search.seek(None)
    if sought is None:
        return ("alike", paper_found(search))
    # By a lean of 1 the second one is ahead.
    ahead = tree_led(pattern, trails, search, sought, sought[3])
    behind = tree_led(pattern, trails, search, sought, 1 - sought[3])
    return ("unlike", search.found[sought][0], ahead, behind)


def is_known(rooms, known):
    if not (0 <= known[0] < len(rooms) and 0 <= known[1] < len(rooms)):
        return False
    if not 0 <= known[2] <= min(rooms[known[0]], rooms[known[1]]):
        return False
    return known[3] in (0, 1) and known[4] in (0, 1)


def lets_against(pattern, one, other, paper):
    check_leaning(one)
    check_leaning(other)
    trails = Trails(pattern)
    rooms = rooms_of_places(pattern)
    if any([not is_known(rooms, known) for known in paper]):
        return False
    return Meets(pattern, trails, ByLeans(trails, one, other)).is_shut(paper)
