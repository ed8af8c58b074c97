"""Texts: patterns and trees written as texts, and patterns read from these."""

from tastegrove.errors import NoText
from tastegrove.patterns import DEEPEST, inner_patterns, is_pattern
from tastegrove.words import LETTERS

LONGEST_READ = 600
FIGURES = "0123456789"
# Ahead of these, among the signs of a sign make, stands one that says that they are no others.
SET_OFF = "]\\"


def signs_text(signs):
    return "[" + "".join(["\\" + sign if sign in SET_OFF else sign for sign in signs]) + "]"


def pattern_text(pattern):
    kind = pattern[0]
    if kind == "none":
        return "!"
    if kind == "blank":
        return "-"
    if kind == "sign":
        return signs_text(pattern[1])
    parts = [pattern_text(part) for part in inner_patterns(pattern)]
    if kind == "row":
        return "(" + " ".join(parts) + ")"
    if kind == "pick":
        return "(" + " | ".join(parts) + ")"
    if kind == "again":
        return "*" + parts[0]
    return str(pattern[1]) + (":" if kind == "held" else "$") + parts[0]


# The texts of a tree itself, between its inner trees.
def texts_and_trees(tree):
    kind = tree[0]
    if kind == "blank":
        return ["-"]
    if kind == "sign":
        return [signs_text(tree[1])]
    if kind in ("pick", "held", "price"):
        signs = {"pick": "=", "held": ":", "price": "$"}
        return [str(tree[1]) + signs[kind], tree[2]]
    pieces = ["(" if kind == "row" else "*("]
    for k, inner in enumerate(tree[1]):
        if k > 0:
            pieces.append(" ")
        pieces.append(inner)
    pieces.append(")")
    return pieces


def tree_text(tree):
    texts = []
    waiting = [tree]
    while len(waiting) > 0:
        one = waiting.pop()
        if isinstance(one, str):
            texts.append(one)
        else:
            waiting.extend(texts_and_trees(one)[::-1])
    return "".join(texts)


# Reads a pattern sign by sign. It takes somewhat more than is ever written: what it has read is written again and held
# against the text.
class Reader:
    def __init__(self, text):
        self.signs = text
        self.at = 0

    def does_follow(self, piece):
        return self.signs[self.at:self.at + len(piece)] == piece

    def read_piece(self, piece):
        if not self.does_follow(piece):
            raise NoText("a sign is missing")
        self.at += len(piece)

    # All signs from here on that are among these.
    def read_row_of(self, among):
        begin = self.at
        while self.at < len(self.signs) and self.signs[self.at] in among:
            self.at += 1
        return self.signs[begin:self.at]

    def read_signs(self):
        self.read_piece("[")
        signs = []
        while not self.does_follow("]"):
            if self.does_follow("\\"):
                self.at += 1
            if self.at == len(self.signs):
                raise NoText("the signs of a sign make don't end")
            signs.append(self.signs[self.at])
            self.at += 1
        self.at += 1
        return "".join(signs)

    # Depth tells how deep the pattern may be: nothing deeper is gone into.
    def read_parts(self, depth):
        self.read_piece("(")
        parts = [self.read_make(depth)]
        kind = "pick" if self.does_follow(" | ") else "row"
        while not self.does_follow(")"):
            self.read_piece(" | " if kind == "pick" else " ")
            parts.append(self.read_make(depth))
        self.at += 1
        return (kind, tuple(parts))

    def read_held(self, depth):
        name = self.read_row_of(LETTERS)
        self.read_piece(":")
        return ("held", name, self.read_make(depth))

    def read_price(self, depth):
        number = self.read_row_of(FIGURES)
        self.read_piece("$")
        return ("price", int(number), self.read_make(depth))

    def read_make(self, depth):
        if depth == 0 or self.at == len(self.signs):
            raise NoText("the text is too deep or too short")
        sign = self.signs[self.at]
        if sign == "[":
            return ("sign", self.read_signs())
        if sign == "(":
            return self.read_parts(depth - 1)
        if sign in LETTERS:
            return self.read_held(depth - 1)
        if sign in FIGURES:
            return self.read_price(depth - 1)
        self.at += 1
        if sign == "*":
            return ("again", self.read_make(depth - 1))
        if sign == "-":
            return ("blank",)
        if sign == "!":
            return ("none",)
        raise NoText("no pattern begins with such a sign")


def read_pattern(thing):
    if not isinstance(thing, str) or len(thing) > LONGEST_READ:
        raise NoText("this is no text that is read")
    pattern = Reader(thing).read_make(DEEPEST)
    if not is_pattern(pattern) or pattern_text(pattern) != thing:
        raise NoText("this is not what is written of a pattern")
    return pattern
