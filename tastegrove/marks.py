"""Marks: the choices of a tree in the order of writing, and the tree that marks and a text make."""

from tastegrove.errors import NoTree
from tastegrove.trees import inner_trees
from tastegrove.words import is_whole

# The marks of an again: ahead of each turn, and behind the last one.
TURN = 0
STOP = 1


# The marks of a tree itself, between its inner trees, whose own marks stand in their places.
def marks_and_trees(tree):
    if tree[0] == "pick":
        return [tree[1], tree[2]]
    if tree[0] != "again":
        return list(inner_trees(tree))
    row = []
    for turn in tree[1]:
        row.extend([TURN, turn])
    row.append(STOP)
    return row


def marks_of(tree):
    marks = []
    waiting = [tree]
    while len(waiting) > 0:
        one = waiting.pop()
        if is_whole(one):
            marks.append(one)
        else:
            waiting.extend(marks_and_trees(one)[::-1])
    return tuple(marks)


# Marks and signs that are used up one by one while a tree is made of them.
class Reading:
    def __init__(self, marks, text):
        self.marks = marks
        self.signs = text
        self.marks_used = 0
        self.signs_used = 0

    def is_used_up(self):
        return self.marks_used == len(self.marks) and self.signs_used == len(self.signs)

    # The next mark, which is one from 0 on, so many as there are choices.
    def take_mark(self, choices):
        if self.marks_used == len(self.marks):
            raise NoTree("there are too few marks")
        mark = self.marks[self.marks_used]
        if not 0 <= mark < choices:
            raise NoTree("a mark is none of its pick or again")
        self.marks_used += 1
        return mark

    def take_sign(self, signs):
        if self.signs_used == len(self.signs):
            raise NoTree("there are too few signs")
        sign = self.signs[self.signs_used]
        if sign not in signs:
            raise NoTree("a sign is none of its place")
        self.signs_used += 1
        return sign

    def take_turns(self, part):
        turns = []
        while self.take_mark(2) == TURN:
            turns.append(self.take_tree(part))
        return tuple(turns)

    def take_tree(self, pattern):
        kind = pattern[0]
        if kind == "none":
            raise NoTree("none has no tree")
        if kind == "sign":
            return ("sign", self.take_sign(pattern[1]))
        if kind == "row":
            return ("row", tuple([self.take_tree(part) for part in pattern[1]]))
        if kind == "pick":
            mark = self.take_mark(len(pattern[1]))
            return ("pick", mark, self.take_tree(pattern[1][mark]))
        if kind == "again":
            return ("again", self.take_turns(pattern[1]))
        if kind in ("held", "price"):
            return (kind, pattern[1], self.take_tree(pattern[2]))
        return ("blank",)


def tree_by(pattern, marks, text):
    reading = Reading(marks, text)
    tree = reading.take_tree(pattern)
    if not reading.is_used_up():
        raise NoTree("marks or signs are left over")
    return tree
