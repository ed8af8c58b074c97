"""Finds: what a pattern catches within a text, and texts put in the place of that."""

from tastegrove.tastes import is_unlike_ahead
from tastegrove.trees import caught_of, text_of
from tastegrove.walks import Walk


# Of the trees of all beginnings of the text, which the walk takes, the one ahead of all others.
def foremost_tree(walk, taste, text):
    walk.begin()
    best = walk.told()
    for sign in text:
        walk.take(sign)
        if len(walk.kept()) == 0:
            return best
        tree = walk.told()
        if tree is not None and (best is None or is_unlike_ahead(taste, tree, best)):
            best = tree
    return best


def caught_by_walk(walk, taste, text, at):
    tree = foremost_tree(walk, taste, text[at:])
    return None if tree is None else (at + len(text_of(tree)), tree)


def caught_at(pattern, taste, text, at):
    return caught_by_walk(Walk(pattern, taste), taste, text, at)


def finds_of(pattern, taste, text):
    walk = Walk(pattern, taste)
    found = []
    at = 0
    while at <= len(text):
        caught = caught_by_walk(walk, taste, text, at)
        if caught is not None:
            found.append((at, caught[0], caught[1]))
        # Behind a find without signs, and where there is none, from the next place on.
        at = at + 1 if caught is None else max(caught[0], at + 1)
    return found


# What was caught last by the name, of a find in the text.
def caught_by_name(text, find, name):
    stretch = (0, 0)
    for caught, begin, end in caught_of(find[2]):
        if caught == name:
            stretch = (begin, end)
    return text[find[0] + stretch[0]:find[0] + stretch[1]]


def made_of(template, text, find):
    return "".join([thing if kind == "text" else caught_by_name(text, find, thing) for kind, thing in template])


def put_for(pattern, taste, text, template):
    pieces = []
    at = 0
    for find in finds_of(pattern, taste, text):
        pieces.append(text[at:find[0]])
        pieces.append(made_of(template, text, find))
        at = find[1]
    pieces.append(text[at:])
    return "".join(pieces)
