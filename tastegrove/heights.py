"""Heights: papers of cheap, by the least price at which the rest of a text is read from each place."""

from tastegrove.places import places_of
from tastegrove.runs import run_of, trails_of_run
from tastegrove.trails import Trails
from tastegrove.trees import price_of


# What a trail comes to, in a list, which is empty where it comes to nothing; row is the dict of the sign that is read
# by it, and is not asked for where it reads none.
def coming_to(trail, row):
    if trail.place is None:
        return [trail.price]
    return [trail.price + row[trail.place]] if trail.place in row else []


# What all the trails come to, each that comes to something.
def all_coming_to(trails, row):
    numbers = []
    for trail in trails:
        numbers.extend(coming_to(trail, row))
    return numbers


# By the places that have the sign and lead on what is come to from them; behind is the dict of the next sign, None
# behind the last one.
def heights_ahead(pattern, trails, sign, behind):
    heights = {}
    for place, signs in enumerate(places_of(pattern)):
        onward = trails.ends[place] if behind is None else trails.steps[place]
        numbers = all_coming_to(onward, behind) if sign in signs else []
        if len(numbers) > 0:
            heights[place] = min(numbers)
    return heights


# The greatest heights of the fewest places that are shut.
def heights_of(pattern, text):
    trails = Trails(pattern)
    rows = []
    behind = None
    for sign in text[::-1]:
        behind = heights_ahead(pattern, trails, sign, behind)
        rows.append(behind)
    return ("heights", rows[::-1])


def are_rows_shut(pattern, trails, text, rows):
    for k, sign in enumerate(text):
        needed = heights_ahead(pattern, trails, sign, rows[k + 1] if k + 1 < len(text) else None)
        for place in needed:
            if place not in rows[k] or rows[k][place] > needed[place]:
                return False
    return True


def are_heights_of_tree(pattern, text, tree, paper):
    trails = Trails(pattern)
    rows = paper[1]
    if not are_rows_shut(pattern, trails, text, rows):
        return False
    left = price_of(tree)
    pairs = trails_of_run(trails, run_of(pattern, tree))
    # Behind the last sign no row is asked for.
    for pair, row in zip(pairs, list(rows) + [None]):
        own = pair[0]
        lesser = [trail for trail in pair[1] if trail.marks < own.marks]
        if any([number <= left for number in all_coming_to(lesser, row)]):
            return False
        left -= own.price
    first = rows[0] if len(text) > 0 else None
    return all([number >= price_of(tree) for number in all_coming_to(pairs[0][1], first)])
