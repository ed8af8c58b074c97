"""Rests: papers of first and shy, and of texts without a tree, by the places from which the rest of a text is read."""

from tastegrove.leans import standing_of
from tastegrove.places import places_of
from tastegrove.runs import run_of, trails_of_run
from tastegrove.trails import Trails


# Which places have the sign and lead on to the set behind, None behind the last sign: there they have an end.
def places_leading_on(pattern, trails, sign, behind):
    places = []
    for place, signs in enumerate(places_of(pattern)):
        if sign in signs and does_lead_on(trails, place, behind):
            places.append(place)
    return places


def does_lead_on(trails, place, behind):
    if behind is None:
        return len(trails.ends[place]) > 0
    return any([step.place in behind for step in trails.steps[place]])


# The least sets that are shut.
def rests_of(pattern, text):
    trails = Trails(pattern)
    sets = []
    behind = None
    for sign in text[::-1]:
        behind = tuple(places_leading_on(pattern, trails, sign, behind))
        sets.append(behind)
    return ("rests", sets[::-1])


def are_sets_shut(pattern, trails, text, sets):
    for k, sign in enumerate(text):
        behind = sets[k + 1] if k + 1 < len(text) else None
        if any([place not in sets[k] for place in places_leading_on(pattern, trails, sign, behind)]):
            return False
    return True


def is_trail_ahead(taste, one, other):
    return one.marks != other.marks and standing_of(taste, one, other)[1] == 0


# By first or shy.
def are_rests_of_tree(pattern, taste, text, tree, paper):
    trails = Trails(pattern)
    sets = paper[1]
    if not are_sets_shut(pattern, trails, text, sets):
        return False
    for k, pair in enumerate(trails_of_run(trails, run_of(pattern, tree))):
        ahead = [trail for trail in pair[1] if is_trail_ahead(taste, trail, pair[0])]
        # An end or a blank that is ahead needs no rest.
        if any([trail.place is None or trail.place in sets[k] for trail in ahead]):
            return False
    return True


def are_rests_of_none(pattern, text, paper):
    trails = Trails(pattern)
    if text == "":
        return len(trails.blanks) == 0
    sets = paper[1]
    return are_sets_shut(pattern, trails, text, sets) and all([start.place not in sets[0] for start in trails.starts])
