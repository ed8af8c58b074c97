"""Places: the sign makes of a pattern, and the starts, steps, ends and blanks by which trees go from one to another."""

from tastegrove.patterns import makes_of
from tastegrove.trails import Trails


def places_of(pattern):
    return [make[1] for make in makes_of(pattern) if make[0] == "sign"]


def starts(pattern):
    return [trail.as_step() for trail in Trails(pattern).starts]


def blanks(pattern):
    return [trail.as_end() for trail in Trails(pattern).blanks]


def steps(pattern, place):
    return [trail.as_step() for trail in Trails(pattern).steps[place]]


def ends(pattern, place):
    return [trail.as_end() for trail in Trails(pattern).ends[place]]


def reached(pattern):
    trails = Trails(pattern)
    found = {}
    waiting = [trail.place for trail in trails.starts]
    while len(waiting) > 0:
        place = waiting.pop()
        if place not in found:
            found[place] = True
            waiting.extend([trail.place for trail in trails.steps[place]])
    return sorted(found)
