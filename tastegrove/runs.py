"""Runs: a tree as the row of steps by which it goes from sign to sign."""

from tastegrove.marks import STOP, TURN, tree_by
from tastegrove.patterns import parts_of
from tastegrove.places import places_of
from tastegrove.trails import Trails, check_trails, place_numbers
from tastegrove.trees import trees_by_makes


# Goes through a tree in the order of writing and cuts what it goes through at the signs.
class Cutting:
    def __init__(self, pattern):
        self.parts = parts_of(pattern)
        self.places = place_numbers(pattern)
        self.steps = []
        self.marks = []
        self.price = 0

    def go(self, tree, number):
        kind = tree[0]
        if kind == "sign":
            self.cut(self.places[number])
        if kind == "price":
            self.price += tree[1]
        if kind == "pick":
            self.marks.append(tree[1])
        for inner, part in trees_by_makes(tree, self.parts[number]):
            if kind == "again":
                self.marks.append(TURN)
            self.go(inner, part)
        if kind == "again":
            self.marks.append(STOP)

    def cut(self, place):
        self.steps.append((place, tuple(self.marks), self.price))
        self.marks = []
        self.price = 0

    def as_run(self):
        return (list(self.steps), (tuple(self.marks), self.price))


def run_of(pattern, tree):
    check_trails(pattern)
    cutting = Cutting(pattern)
    cutting.go(tree, 0)
    return cutting.as_run()


def marks_of_run(run):
    marks = []
    for step in run[0]:
        marks.extend(step[1])
    marks.extend(run[1][0])
    return tuple(marks)


def tree_of(pattern, text, run):
    check_trails(pattern)
    return tree_by(pattern, marks_of_run(run), text)


def is_run(pattern, text, run):
    trails = Trails(pattern)
    if len(run[0]) != len(text):
        return False
    signs = places_of(pattern)
    onward = trails.starts
    endings = trails.blanks
    for step, sign in zip(run[0], text):
        if step not in [trail.as_step() for trail in onward] or sign not in signs[step[0]]:
            return False
        onward = trails.steps[step[0]]
        endings = trails.ends[step[0]]
    return run[1] in [trail.as_end() for trail in endings]


def trail_with(trails, marks):
    found = [trail for trail in trails if trail.marks == marks]
    return found[0]


# For each start and step of a run, and at last for its end, a pair: its trail, and the list in which that stands.
def trails_of_run(trails, run):
    pairs = []
    onward = trails.starts
    endings = trails.blanks
    for step in run[0]:
        pairs.append((trail_with(onward, step[1]), onward))
        onward = trails.steps[step[0]]
        endings = trails.ends[step[0]]
    pairs.append((trail_with(endings, run[1][0]), endings))
    return pairs
