"""Growth: whether the trees of ever longer texts double, rise, or are bounded."""

from tastegrove.errors import TooMany
from tastegrove.meets import Meets, paper_found
from tastegrove.places import places_of, reached
from tastegrove.search import Search
from tastegrove.trails import Trails
from tastegrove.twos import ByPlaces

MOST_SIGN_MAKES = 6


# Two unlike loops are sought that come back to a place by one text.
class ByLoops(ByPlaces):
    def __init__(self, trails, place):
        ByPlaces.__init__(self, trails)
        self.place = place

    def does_end(self, known):
        return known == (self.place, self.place)


# Goes on from several places at once, by one sign and a step from each; a thing is a tuple of these places, None for
# the one ahead of the first sign.
class Together:
    def __init__(self, pattern, trails):
        self.place_signs = places_of(pattern)
        self.trails = trails
        # From things to what comes next, as many texts lead to one thing.
        self.known = {}

    def places_behind(self, place):
        trails = self.trails.starts if place is None else self.trails.steps[place]
        return sorted(set([trail.place for trail in trails]))

    # Pairs of a sign, the least one, and a thing.
    def things_behind(self, thing):
        if thing not in self.known:
            # With each thing so far all signs that its places have in common.
            pairs = [((), None)]
            for place in thing:
                further = []
                for after in self.places_behind(place):
                    further.extend(self.pairs_with(pairs, after))
                pairs = further
            self.known[thing] = [(signs[0], places) for places, signs in pairs]
        return self.known[thing]

    def pairs_with(self, pairs, place):
        found = []
        for places, signs in pairs:
            common = self.place_signs[place]
            if signs is not None:
                common = "".join([sign for sign in common if sign in signs])
            if common != "":
                found.append((places + (place,), common))
        return found


# A guide of a search by which one of the sought things is come to.
class Leading:
    def __init__(self, together, sought):
        self.together = together
        self.sought = sought

    def is_sought(self, thing):
        return thing in self.sought

    def onward(self, thing):
        return [(sign, after, None) for sign, after in self.together.things_behind(thing)]


class Growth:
    def __init__(self, pattern):
        self.trails = Trails(pattern)
        if len(places_of(pattern)) > MOST_SIGN_MAKES:
            raise TooMany("the pattern has too many sign makes")
        self.pattern = pattern
        self.places = reached(pattern)
        self.together = Together(pattern, self.trails)

    # The places, each with each other one.
    def unlike_places(self):
        found = []
        for one in self.places:
            found.extend([(one, other) for other in self.places if other != one])
        return found

    def meets_at(self, place):
        return Meets(self.pattern, self.trails, ByLoops(self.trails, place))

    def search_for(self, thing, sought):
        return Search(thing, Leading(self.together, sought))

    # The least text that leads from the thing to one that is sought.
    def text_between(self, thing, sought):
        search = self.search_for(thing, sought)
        return search.found[search.seek(None)][0]

    # U comes to the one place, w leads from the other one to an end.
    def texts_around(self, one, text, other):
        ending = [(place,) for place in self.places if len(self.trails.ends[place]) > 0]
        return (self.text_between((None,), [(one,)]), text, self.text_between((other,), ending))

    # The places that are come to from one, it among them.
    def places_from(self, place):
        search = self.search_for((place,), [])
        search.seek(None)
        return [thing[0] for thing in search.found]

    def are_pairs_shut(self, pairs):
        for place in self.places:
            meets = self.meets_at(place)
            if (place, place, place) in pairs:
                return False
            for behind in self.places_from(place):
                for one, other in meets.forks(self.trails.steps[behind]):
                    if (place, one.place, other.place) not in pairs or (place, other.place, one.place) not in pairs:
                        return False
        for triple in pairs:
            for one, other in self.meets_at(triple[0]).follows(triple[1:]):
                if (triple[0], one.place, other.place) not in pairs:
                    return False
        return True

    def are_threes_shut(self, threes):
        begun = []
        for one, other in self.unlike_places():
            if (one, other, one, other, other) in threes:
                return False
            begun.append((one, other, one, one, other))
        for five in begun + list(threes):
            if any([five[:2] + thing not in threes for sign, thing in self.together.things_behind(five[2:])]):
                return False
        return True


def growth_of(pattern):
    growth = Growth(pattern)
    pairs = []
    for place in growth.places:
        search = Search((place,), growth.meets_at(place))
        sought = search.seek(None)
        if sought is not None:
            return ("doubling",) + growth.texts_around(place, search.found[sought][0], place)
        for one, other in paper_found(search):
            pairs.append((place, one, other))
            pairs.append((place, other, one))
    threes = []
    for one, other in growth.unlike_places():
        search = growth.search_for((one, one, other), [(one, other, other)])
        sought = search.seek(None)
        if sought is not None:
            return ("rising",) + growth.texts_around(one, search.found[sought][0], other)
        threes.extend([(one, other) + thing for thing in search.found])
    return ("bounded", pairs, threes)


# Those of the tuples, as keys, that have places alone to which a beginning comes.
def tuples_of_places(tuples, places):
    found = {}
    for one in tuples:
        if all([number in places for number in one]):
            found[one] = True
    return found


def lets_bounded(pattern, pairs, threes):
    growth = Growth(pattern)
    if not growth.are_pairs_shut(tuples_of_places(pairs, growth.places)):
        return False
    unlike = [five for five in threes if five[0] != five[1]]
    return growth.are_threes_shut(tuples_of_places(unlike, growth.places))
