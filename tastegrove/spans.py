"""Spans: papers of long and short, by the stretches of a text that each make may have."""

from tastegrove.counts import Counts
from tastegrove.patterns import makes_of, parts_of
from tastegrove.tastes import is_length_ahead
from tastegrove.trails import check_trails
from tastegrove.trees import text_of, trees_by_makes


# The fewest triples that are shut: those of all trees of all stretches.
def spans_of(pattern, text):
    check_trails(pattern)
    counts = Counts(pattern, text)
    rows = []
    for number in range(len(counts.makes)):
        for at in range(len(text) + 1):
            rows.extend([(number, at, to) for to in sorted(counts.ends_of(number, at))])
    return ("spans", rows)


# The triples of a paper that count, looked at by its judge: for each make and each place of the text a dict of the
# tos of those that begin there.
class Spans:
    def __init__(self, pattern, text, rows):
        self.makes = makes_of(pattern)
        self.parts = parts_of(pattern)
        self.signs = text
        self.froms = list(range(len(text) + 1))
        self.table = [[{} for at in self.froms] for make in self.makes]
        for number, at, to in rows:
            if 0 <= number < len(self.makes) and 0 <= at <= to <= len(text):
                self.table[number][at][to] = True
        # By the parts of agains.
        self.chains = {}
        for number, make in enumerate(self.makes):
            if make[0] == "again":
                self.chains[self.parts[number][0]] = self.chains_of(self.parts[number][0])

    # For each place of the text the tos of all triples of a turn that stand, from there, one behind the other.
    def chains_of(self, part):
        chains = [{} for at in self.froms]
        for at in self.froms[::-1]:
            chains[at][at] = True
            for to in self.table[part][at]:
                if to > at:
                    chains[at].update(chains[to])
        return chains

    def is_shut(self):
        for number in range(len(self.makes)):
            for at in self.froms:
                if any([to not in self.table[number][at] for to in self.following(number, at)]):
                    return False
        return True

    # The tos of the triples of a make from one place that follow from those of its parts and from the text.
    def following(self, number, at):
        make = self.makes[number]
        kind = make[0]
        if kind == "none":
            return {}
        if kind == "sign":
            return {at + 1: True} if at < len(self.signs) and self.signs[at] in make[1] else {}
        if kind == "again":
            return self.chains[self.parts[number][0]][at]
        if kind == "pick":
            return self.following_pick(number, at)
        return self.following_row(number, at)

    def following_pick(self, number, at):
        found = {}
        for part in self.parts[number]:
            found.update(self.table[part][at])
        return found

    # Blank, held and price are looked at like rows, of no part and of one.
    def following_row(self, number, at):
        found = {at: True}
        for part in self.parts[number]:
            further = {}
            for place in found:
                further.update(self.table[part][place])
            found = further
        return found

    # Whether nothing in the paper is ahead of the tree, of the make, that begins at the place.
    def is_foremost(self, taste, tree, number, at):
        inner = self.inner_stretches(tree, number, at)
        end = at + len(text_of(tree))
        if tree[0] == "pick" and self.has_lesser_part(number, tree[1], at, end):
            return False
        if tree[0] == "row" and self.has_part_ahead(taste, inner, end):
            return False
        if tree[0] == "again" and self.has_turn_ahead(taste, inner, end):
            return False
        return all([self.is_foremost(taste, one[0], one[1], one[2]) for one in inner])

    # The trees straight within a tree, in order: each with the number of its make, and from where to where it goes.
    def inner_stretches(self, tree, number, at):
        found = []
        place = at
        for inner, part in trees_by_makes(tree, self.parts[number]):
            end = place + len(text_of(inner))
            found.append((inner, part, place, end))
            place = end
        return found

    def has_lesser_part(self, number, mark, at, to):
        return any([to in self.table[part][at] for part in self.parts[number][:mark]])

    def has_part_ahead(self, taste, inner, end):
        # The places from which the parts behind the one at hand lead to the end.
        leading = {end: True}
        for tree, part, at, to in inner[::-1]:
            if any([place in leading and is_length_ahead(taste, place, to) for place in self.table[part][at]]):
                return True
            leading = self.leading_to(part, leading, self.froms[inner[0][2]:end + 1])
        return False

    def leading_to(self, part, tos, froms):
        leading = {}
        for at in froms:
            if any([to in tos for to in self.table[part][at]]):
                leading[at] = True
        return leading

    def has_turn_ahead(self, taste, inner, end):
        for tree, part, at, to in inner:
            for place in self.table[part][at]:
                if place > at and is_length_ahead(taste, place, to) and end in self.chains[part][place]:
                    return True
        return False


# By long or short.
def are_spans_of_tree(pattern, taste, text, tree, paper):
    check_trails(pattern)
    spans = Spans(pattern, text, paper[1])
    return spans.is_shut() and spans.is_foremost(taste, tree, 0, 0)
