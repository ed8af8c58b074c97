"""Patterns to test with, and slow answers by the letter of the document to hold the program against."""

import itertools
import math
import random

NONE = ("none",)
BLANK = ("blank",)
SIGNS = "".join(chr(number) for number in range(32, 127) if number != 37)
A = ("sign", "a")
B = ("sign", "b")
AB = ("sign", "ab")


def row(*parts):
    return ("row", parts)


def pick(*parts):
    return ("pick", parts)


def again(part):
    return ("again", part)


def held(name, part):
    return ("held", name, part)


def price(number, part):
    return ("price", number, part)


# Each kind, alone and within others, with like parts, none and blank deep within.
PATTERNS = (
    NONE,
    BLANK,
    A,
    AB,
    ("sign", SIGNS),
    row(A, B),
    row(A, A),
    row(A, BLANK, B),
    row(BLANK, BLANK),
    row(A, NONE),
    row(again(A), again(A)),
    row(again(AB), A, again(AB)),
    pick(A, B),
    pick(A, A),
    pick(A, row(A, A)),
    pick(row(A, A), A, row(A, A)),
    pick(BLANK, A, BLANK),
    pick(NONE, NONE),
    pick(NONE, A, NONE, again(A)),
    again(A),
    again(NONE),
    again(AB),
    again(pick(A, A)),
    again(pick(A, B, row(A, B))),
    again(row(A, again(A))),
    again(row(again(A), B)),
    again(pick(A, row(A, A), row(A, A, A))),
    row(again(pick(row(A, A), A)), again(A)),
    row(pick(A, row(A, B)), pick(row(B, A), A, BLANK)),
    row(pick(BLANK, A), pick(BLANK, A), pick(BLANK, A)),
    held("x", A),
    held("word", row(held("x", again(A)), held("x", again(A)))),
    held("x", BLANK),
    held("x", NONE),
    row(held("x", again(A)), held("y", BLANK), B),
    price(3, A),
    price(0, BLANK),
    pick(price(5, A), price(2, A), price(5, A)),
    price(7, row(price(1, again(A)), price(1000, again(A)))),
    again(pick(price(3, A), price(1, A))),
    row(again(pick(price(2, A), price(5, row(A, A)))), pick(price(1, A), BLANK)),
    held("x", price(4, again(held("y", pick(A, price(2, row(A, A))))))),
    pick(row(again(A), NONE), again(A)),
    again(pick(row(A, NONE), A)),
    row(again(pick(A, row(A, B))), again(B), pick(BLANK, again(B))),
)


# All pairs (tree, end) of a pattern over stretches of the text that begin at the place.
def trees_from(pattern, text, at):
    kind = pattern[0]
    if kind == "blank":
        return [(("blank",), at)]
    if kind == "sign":
        return [(("sign", sign), at + 1) for sign in text[at:at + 1] if sign in pattern[1]]
    if kind == "row":
        pairs = [((), at)]
        for part in pattern[1]:
            pairs = [(trees + (tree,), end) for trees, to in pairs for tree, end in trees_from(part, text, to)]
        return [(("row", trees), end) for trees, end in pairs]
    if kind == "pick":
        return [(("pick", k, tree), end) for k, part in enumerate(pattern[1])
                for tree, end in trees_from(part, text, at)]
    if kind == "again":
        pairs, found = [((), at)], []
        while pairs:
            found.extend(pairs)
            pairs = [(turns + (turn,), end) for turns, to in pairs for turn, end in trees_from(pattern[1], text, to)]
        return [(("again", turns), end) for turns, end in found]
    if kind in ("held", "price"):
        return [((kind, pattern[1], tree), end) for tree, end in trees_from(pattern[2], text, at)]
    return []


def slow_trees(pattern, text):
    return [tree for tree, end in trees_from(pattern, text, 0) if end == len(text)]


def texts_up_to(signs, length):
    return ["".join(text) for n in range(length + 1) for text in itertools.product(signs, repeat=n)]


# A pattern by chance, from a source that always gives the same.
def chance_pattern(source, depth):
    kinds = ["blank", "sign", "sign", "sign"] + ["row", "pick", "again", "held", "price"] * (2 if depth > 1 else 0)
    kind = source.choice(kinds + (["none"] if source.random() < 0.3 else []))
    if kind in ("none", "blank"):
        return (kind,)
    if kind == "sign":
        return ("sign", source.choice(("a", "b", "ab")))
    if kind in ("row", "pick"):
        return (kind, tuple(chance_pattern(source, depth - 1) for k in range(source.randint(2, 3))))
    part = chance_pattern(source, depth - 1)
    if kind == "again":
        return A if trees_from(part, "", 0) else ("again", part)
    return (kind, source.choice("xyz") if kind == "held" else source.randint(0, 3), part)


def chance_patterns(seed, count, depth):
    source = random.Random(seed)
    return [chance_pattern(source, depth) for k in range(count)]


# The thing with one place, however deep, exchanged, left out, doubled or added: once for each place and change.
def changed_at_one_place(thing, changes):
    for change in changes:
        yield change
    if isinstance(thing, tuple):
        for k, inner in enumerate(thing):
            for changed in changed_at_one_place(inner, changes):
                yield thing[:k] + (changed,) + thing[k + 1:]
            yield thing[:k] + thing[k + 1:]
            yield thing[:k] + (inner,) + thing[k:]
        yield thing + (0,)


# So many tuples around the thing.
def wrapped(thing, depth):
    for k in range(depth):
        thing = (thing,)
    return thing


# By the letter of 2.3.
def slow_marks(tree):
    kind = tree[0]
    if kind == "row":
        return tuple(mark for inner in tree[1] for mark in slow_marks(inner))
    if kind == "pick":
        return (tree[1],) + slow_marks(tree[2])
    if kind == "again":
        return tuple(mark for turn in tree[1] for mark in (0,) + slow_marks(turn)) + (1,)
    return slow_marks(tree[2]) if kind in ("held", "price") else ()


# Of sixty signs these have 61, 16, 200 and 201 trees.
PAIR = row(again(A), again(A))
SIXTEEN = row(again(A), pick(BLANK, BLANK, BLANK, BLANK), pick(BLANK, BLANK, BLANK, BLANK))
TWO_HUNDRED = pick(PAIR, PAIR, PAIR, SIXTEEN, again(A))
ONE_MORE = pick(PAIR, PAIR, PAIR, SIXTEEN, again(A), again(A))
SIXTY = "a" * 60


# How many sign makes a pattern has.
def sign_makes(pattern):
    if pattern[0] == "sign":
        return 1
    if pattern[0] in ("row", "pick"):
        return sum(sign_makes(part) for part in pattern[1])
    return sign_makes(pattern[-1]) if pattern[0] in ("again", "held", "price") else 0


# What comes in a tree, in the order of writing: pairs ("mark", number), ("price", number), ("sign", place). The first
# place of the pattern is handed in.
def slow_events(pattern, tree, place):
    kind = pattern[0]
    if kind == "sign":
        return [("sign", place)]
    if kind == "pick":
        k = tree[1]
        ahead = sum(sign_makes(part) for part in pattern[1][:k])
        return [("mark", k)] + slow_events(pattern[1][k], tree[2], place + ahead)
    if kind == "held":
        return slow_events(pattern[2], tree[2], place)
    if kind == "price":
        return [("price", pattern[1])] + slow_events(pattern[2], tree[2], place)
    events = []
    if kind == "row":
        for part, inner in zip(pattern[1], tree[1]):
            events += slow_events(part, inner, place)
            place += sign_makes(part)
    if kind == "again":
        for turn in tree[1]:
            events += [("mark", 0)] + slow_events(pattern[1], turn, place)
        events.append(("mark", 1))
    return events


# By the letter of 5.1 and 5.2.
def slow_run(pattern, tree):
    steps, marks, price = [], (), 0
    for kind, number in slow_events(pattern, tree, 0):
        if kind == "mark":
            marks += (number,)
        elif kind == "price":
            price += number
        else:
            steps.append((number, marks, price))
            marks, price = (), 0
    return (steps, (marks, price))


# All trees with at most two turns of each again and the first sign of each place: in these is all that is in any
# tree between two signs. None where they are too many.
def trees_of_two_turns(pattern, most):
    kind = pattern[0]
    if kind in ("none", "blank"):
        return [pattern] if kind == "blank" else []
    if kind == "sign":
        return [("sign", pattern[1][0])]
    if kind in ("row", "pick"):
        inner = [trees_of_two_turns(part, most) for part in pattern[1]]
    else:
        inner = [trees_of_two_turns(pattern[-1], most)]
    if any(trees is None for trees in inner):
        return None
    if kind == "row":
        if math.prod(len(trees) for trees in inner) > most:
            return None
        return [("row", trees) for trees in itertools.product(*inner)]
    if kind == "pick":
        return [("pick", k, tree) for k, trees in enumerate(inner) for tree in trees]
    if kind == "again":
        if len(inner[0]) ** 2 > most:
            return None
        return [("again", turns) for n in range(3) for turns in itertools.product(inner[0], repeat=n)]
    return [(kind, pattern[1], tree) for tree in inner[0]]


# The starts, the blanks, and by places the steps and ends that come in the trees.
def trails_in(pattern, trees):
    count = sign_makes(pattern)
    starts, blanks = set(), set()
    steps, ends = [set() for k in range(count)], [set() for k in range(count)]
    for tree in trees:
        run, end = slow_run(pattern, tree)
        starts.update(run[:1])
        (ends[run[-1][0]] if run else blanks).add(end)
        for step, after in zip(run, run[1:]):
            steps[step[0]].add(after)
    return starts, blanks, steps, ends


# These have 300 and 301 starts, blanks, steps and ends together: blanks alone, and all four kinds of them.
FULL_BLANKS = row(pick(*[BLANK] * 5), pick(*[BLANK] * 5), pick(*[BLANK] * 4), pick(*[BLANK] * 3))
OVERFULL_BLANKS = pick(FULL_BLANKS, BLANK)
SIXTEEN_SIGNS = again(pick(pick(*[A] * 6), pick(*[A] * 6), pick(*[AB] * 4)))
FULL = pick(SIXTEEN_SIGNS, pick(*[BLANK] * 6), pick(*[BLANK] * 5))
OVERFULL = pick(SIXTEEN_SIGNS, pick(*[BLANK] * 6), pick(*[BLANK] * 6))
SIX_BLANKS = pick(*[BLANK] * 6)
# These have very many.
HUGE_ONES = (
    row(*[pick(*[BLANK] * 5)] * 6),
    row(A, row(*[SIX_BLANKS] * 5), A),
    again(row(SIX_BLANKS, SIX_BLANKS, A, SIX_BLANKS, SIX_BLANKS)),
    again(row(again(row(SIX_BLANKS, SIX_BLANKS, A)), SIX_BLANKS, A, SIX_BLANKS)),
    pick(A, row(row(SIX_BLANKS, SIX_BLANKS), row(SIX_BLANKS, SIX_BLANKS))),
    row(*[row(*[row(*[row(*[row(*[pick(BLANK, BLANK)] * 2)] * 2)] * 2)] * 2)] * 2),
)
# This one has two: the many are in no tree.
HUGE_BUT_WITHOUT_TEXTS = pick(row(NONE, row(*[SIX_BLANKS] * 4)), A)


# A row of lists with one of them changed: once for each list and each change of it that the function tells.
def changed_at_each(lists, changes):
    for k, one in enumerate(lists):
        for changed in changes(one):
            yield lists[:k] + [changed] + lists[k + 1:]
