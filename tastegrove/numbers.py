"""Numbers: the trees of a text in the order of their marks."""

from tastegrove.counts import Counts
from tastegrove.errors import NoTree, TooMany
from tastegrove.marks import TURN, marks_of
from tastegrove.trees import text_of

MOST_LISTED = 200


# Goes down to the tree that has so many trees of its text ahead of it.
class ByNumber:
    def __init__(self, number):
        self.left = number

    def choose(self, sizes):
        mark = 0
        while self.left >= sizes[mark]:
            self.left -= sizes[mark]
            mark += 1
        return mark


# Goes down to the tree that has these marks, and counts the trees that it leaves behind with lesser ones.
class ByMarks:
    def __init__(self, marks):
        self.marks = marks
        self.used = 0
        self.passed = 0

    def choose(self, sizes):
        mark = self.marks[self.used]
        self.used += 1
        self.passed += sum(sizes[:mark])
        return mark


# Makes one tree of the text in the order of writing. Onward, wherever it stands, is a dict from the places at which
# the make at hand may end to how many ways there are to go on from there to the end of the text: so at each mark it
# is known how many trees of the text, alike so far, have which mark.
class Descent:
    def __init__(self, counts, guide):
        self.counts = counts
        self.guide = guide
        self.at = 0

    def whole_tree(self):
        return self.make_tree(0, {len(self.counts.signs): 1})

    def size(self, number, at, onward):
        ends = self.counts.ends_of(number, at)
        return sum([ends[end] * onward.get(end, 0) for end in ends])

    def onward_ahead(self, number, places, onward):
        ahead = {}
        for place in places:
            ahead[place] = self.size(number, place, onward)
        return ahead

    def make_tree(self, number, onward):
        make = self.counts.makes[number]
        kind = make[0]
        if kind == "sign":
            self.at += 1
            return ("sign", self.counts.signs[self.at - 1])
        if kind == "row":
            return ("row", self.make_row(self.counts.parts[number], onward))
        if kind == "pick":
            return self.make_pick(self.counts.parts[number], onward)
        if kind == "again":
            return ("again", self.make_turns(number, onward))
        if kind in ("held", "price"):
            return (kind, make[1], self.make_tree(self.counts.parts[number][0], onward))
        return ("blank",)

    def make_row(self, parts, onward):
        # The places at which each part may begin.
        begins = [[self.at]]
        for part in parts[:-1]:
            found = {}
            for place in begins[-1]:
                found.update(self.counts.ends_of(part, place))
            begins.append(list(found))
        # What is onward of each part, from the last one on.
        onwards = [onward]
        for k in range(len(parts) - 1, 0, -1):
            onwards.append(self.onward_ahead(parts[k], begins[k], onwards[-1]))
        return tuple([self.make_tree(part, behind) for part, behind in zip(parts, onwards[::-1])])

    def make_pick(self, parts, onward):
        mark = self.guide.choose([self.size(part, self.at, onward) for part in parts])
        return ("pick", mark, self.make_tree(parts[mark], onward))

    def make_turns(self, number, onward):
        part = self.counts.parts[number][0]
        # Where an again may end, just there its turns may end.
        behind = self.onward_ahead(number, list(self.counts.ends_of(number, self.at)), onward)
        turns = []
        while self.guide.choose([self.size(part, self.at, behind), onward.get(self.at, 0)]) == TURN:
            turns.append(self.make_tree(part, behind))
        return tuple(turns)


def trees(pattern, text):
    counts = Counts(pattern, text)
    if counts.total() > MOST_LISTED:
        raise TooMany("the text has too many trees to list")
    return [Descent(counts, ByNumber(k)).whole_tree() for k in range(counts.total())]


def tree_at(pattern, text, k):
    counts = Counts(pattern, text)
    if not 0 <= k < counts.total():
        raise NoTree("no tree of the text has this number")
    return Descent(counts, ByNumber(k)).whole_tree()


def number_of(pattern, tree):
    guide = ByMarks(marks_of(tree))
    Descent(Counts(pattern, text_of(tree)), guide).whole_tree()
    return guide.passed
