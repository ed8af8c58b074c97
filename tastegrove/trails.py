"""Trails: what trees go through ahead of their first sign, from sign to sign, behind the last one, or without any."""

from tastegrove.errors import TooMany
from tastegrove.marks import STOP, TURN
from tastegrove.patterns import has_texts, inner_patterns, makes_of, parts_of

MOST_TRAILS = 300
# What is gone through is told by a tuple of events, each a pair of a kind and a number: a mark of a pick or an again,
# a price, a sign with its place, and rooms (parts of rows, turns of agains) that are entered and left.
ENTER = ("enter", 0)
LEAVE = ("leave", 0)


# How many starts, blanks, steps and ends there are of the one with the other behind it, each told so for itself.
def count_behind(one, other):
    starts = one[0] + one[1] * other[0]
    blanks = one[1] * other[1]
    steps = one[2] + other[2] + one[3] * other[0]
    ends = one[3] * other[1] + other[3]
    return (starts, blanks, steps, ends)


# How many starts, blanks, steps and ends a pattern has.
def count_trails(pattern):
    kind = pattern[0]
    if not has_texts(pattern):
        return (0, 0, 0, 0)
    if kind == "sign":
        return (1, 0, 0, 1)
    counts = [count_trails(part) for part in inner_patterns(pattern)]
    if kind == "pick":
        return tuple([sum([count[k] for count in counts]) for k in range(4)])
    if kind == "again":
        count = counts[0]
        return (count[0], 1, count[2] + count[3] * count[0], count[3])
    whole = (0, 1, 0, 0)
    for count in counts:
        whole = count_behind(whole, count)
    return whole


def check_trails(pattern):
    if sum(count_trails(pattern)) > MOST_TRAILS:
        raise TooMany("the pattern has too many starts, blanks, steps and ends")


# From the numbers of the sign makes to their places.
def place_numbers(pattern):
    places = {}
    for number, make in enumerate(makes_of(pattern)):
        if make[0] == "sign":
            places[number] = len(places)
    return places


# For each place how many rooms are around it.
def rooms_of_places(pattern):
    makes = makes_of(pattern)
    rooms = [0 for make in makes]
    for number, parts in enumerate(parts_of(pattern)):
        for part in parts:
            rooms[part] = rooms[number] + (1 if makes[number][0] in ("row", "again") else 0)
    return [rooms[number] for number in place_numbers(pattern)]


# Of one make, as rows of events: lists of its starts and blanks, and by its places lists of steps and ends.
class Ways:
    def __init__(self):
        self.starts = []
        self.blanks = []
        self.steps = {}
        self.ends = {}


def joined(ones, others):
    rows = []
    for one in ones:
        for other in others:
            rows.append(one + other)
    return rows


# The ways of a make around another, with the events ahead of all that is within, and those behind it.
def ways_around(ahead, inner, behind):
    ways = Ways()
    ways.starts = [ahead + start for start in inner.starts]
    ways.blanks = [ahead + blank + behind for blank in inner.blanks]
    for place in inner.ends:
        ways.steps[place] = list(inner.steps[place])
        ways.ends[place] = [end + behind for end in inner.ends[place]]
    return ways


def ways_behind(one, other):
    ways = Ways()
    ways.starts = one.starts + joined(one.blanks, other.starts)
    ways.blanks = joined(one.blanks, other.blanks)
    for place in one.ends:
        ways.steps[place] = one.steps[place] + joined(one.ends[place], other.starts)
        ways.ends[place] = joined(one.ends[place], other.blanks)
    ways.steps.update(other.steps)
    ways.ends.update(other.ends)
    return ways


# Lists the ways of the makes of a pattern by their numbers.
class Listing:
    def __init__(self, pattern):
        self.makes = makes_of(pattern)
        self.parts = parts_of(pattern)
        self.places = place_numbers(pattern)

    def ways_of(self, number):
        make = self.makes[number]
        kind = make[0]
        # What is within a make without texts is never gone through, and may have more ways than can be listed.
        if not has_texts(make):
            return Ways()
        if kind == "sign":
            return self.ways_of_sign(self.places[number])
        if kind == "pick":
            return self.ways_of_pick(self.parts[number])
        if kind == "again":
            return self.ways_of_again(self.parts[number][0])
        if kind == "price":
            return ways_around((("price", make[1]),), self.ways_of(self.parts[number][0]), ())
        if kind == "held":
            return self.ways_of(self.parts[number][0])
        return self.ways_of_row(self.parts[number])

    def ways_of_sign(self, place):
        ways = Ways()
        ways.starts = [(("sign", place),)]
        ways.steps[place] = []
        ways.ends[place] = [()]
        return ways

    def ways_of_pick(self, parts):
        ways = Ways()
        for k, part in enumerate(parts):
            picked = ways_around((("pick", k),), self.ways_of(part), ())
            ways.starts.extend(picked.starts)
            ways.blanks.extend(picked.blanks)
            ways.steps.update(picked.steps)
            ways.ends.update(picked.ends)
        return ways

    def ways_of_again(self, part):
        turn = ways_around((("again", TURN), ENTER), self.ways_of(part), (LEAVE,))
        stop = (("again", STOP),)
        ways = Ways()
        ways.starts = turn.starts
        ways.blanks = [stop]
        for place in turn.ends:
            ways.steps[place] = turn.steps[place] + joined(turn.ends[place], turn.starts)
            ways.ends[place] = [end + stop for end in turn.ends[place]]
        return ways

    # Blank is listed like a row of no parts.
    def ways_of_row(self, parts):
        ways = Ways()
        ways.blanks = [()]
        for part in parts:
            ways = ways_behind(ways, ways_around((ENTER,), self.ways_of(part), (LEAVE,)))
        return ways


# In how many rooms the events stay to their end, of those that are around their beginning, and then, for each mark,
# of those that are around it.
def rooms_stayed_in(events, rooms):
    depth = rooms + events.count(ENTER) - events.count(LEAVE)
    least = depth
    stays = []
    for kind, number in events[::-1]:
        if kind == "enter":
            depth -= 1
        elif kind == "leave":
            depth += 1
        elif kind in ("pick", "again"):
            stays.append(least)
        least = min(least, depth)
    stays.append(least)
    return tuple(stays[::-1])


# A start, a step, an end or a blank; ends and blanks lead to no place. Rooms are those around its beginning: none of a
# start and a blank, those of its place of a step and an end.
class Trail:
    def __init__(self, events, rooms):
        places = [number for kind, number in events if kind == "sign"]
        self.place = places[0] if len(places) > 0 else None
        self.marks = tuple([number for kind, number in events if kind in ("pick", "again")])
        self.price = sum([number for kind, number in events if kind == "price"])
        # For each mark whether it is one of an again.
        self.of_agains = tuple([kind == "again" for kind, number in events if kind in ("pick", "again")])
        self.stays = rooms_stayed_in(events, rooms)

    def as_step(self):
        return (self.place, self.marks, self.price)

    def as_end(self):
        return (self.marks, self.price)


def trails_by_marks(rows, rooms):
    return sorted([Trail(events, rooms) for events in rows], key=lambda trail: trail.marks)


# All trails of a pattern: the starts, the blanks, and by places the steps and the ends.
class Trails:
    def __init__(self, pattern):
        check_trails(pattern)
        ways = Listing(pattern).ways_of(0)
        rooms = rooms_of_places(pattern)
        self.starts = trails_by_marks(ways.starts, 0)
        self.blanks = trails_by_marks(ways.blanks, 0)
        self.steps = [trails_by_marks(ways.steps.get(place, []), room) for place, room in enumerate(rooms)]
        self.ends = [trails_by_marks(ways.ends.get(place, []), room) for place, room in enumerate(rooms)]
