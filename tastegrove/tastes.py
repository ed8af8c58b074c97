"""Tastes: which of two trees is ahead, and the tree that is ahead of all others."""

from tastegrove.errors import NoTaste
from tastegrove.numbers import trees
from tastegrove.trees import price_of, text_of

TASTES = ("first", "shy", "long", "short", "cheap")


def check_taste(thing):
    if thing not in TASTES:
        raise NoTaste("this is no taste")


# Cheap is none of the tastes by which beginnings lean.
def check_leaning(thing):
    check_taste(thing)
    if thing == "cheap":
        raise NoTaste("cheap is not among the tastes here")


# The first place at which two tuples of trees are unlike; one that is at its end there has no tree at it.
def first_unlike(ones, others):
    at = 0
    while at < len(ones) and at < len(others) and ones[at] == others[at]:
        at += 1
    return at


def is_row_ahead(taste, ones, others):
    at = first_unlike(ones, others)
    return is_unlike_ahead(taste, ones[at], others[at])


def is_again_ahead(taste, ones, others):
    at = first_unlike(ones, others)
    if at == len(ones):
        return taste == "shy"
    if at == len(others):
        return taste != "shy"
    return is_unlike_ahead(taste, ones[at], others[at])


def is_length_ahead(taste, one, other):
    return one > other if taste == "long" else one < other


# Of two unlike trees of one make, over stretches of one text that begin together.
def is_unlike_ahead(taste, one, other):
    if taste in ("long", "short"):
        lengths = (len(text_of(one)), len(text_of(other)))
        if lengths[0] != lengths[1]:
            return is_length_ahead(taste, lengths[0], lengths[1])
    if taste == "cheap":
        prices = (price_of(one), price_of(other))
        return prices[0] < prices[1] if prices[0] != prices[1] else is_unlike_ahead("first", one, other)
    kind = one[0]
    if kind == "row":
        return is_row_ahead(taste, one[1], other[1])
    if kind == "again":
        return is_again_ahead(taste, one[1], other[1])
    if kind == "pick" and one[1] != other[1]:
        return one[1] < other[1]
    return is_unlike_ahead(taste, one[2], other[2])


def is_ahead(taste, one, other):
    check_taste(taste)
    return one != other and is_unlike_ahead(taste, one, other)


def told(pattern, taste, text):
    check_taste(taste)
    best = None
    for tree in trees(pattern, text):
        if best is None or is_unlike_ahead(taste, tree, best):
            best = tree
    return best
