"""Trees: whether a thing is one of a pattern, and what is told of it without a pattern."""

from tastegrove.words import is_text, is_whole

# How long the tuple of a tree of each kind is; of none there is no tree.
LENGTHS = {"blank": 1, "sign": 2, "row": 2, "pick": 3, "again": 2, "held": 3, "price": 3}


def is_one_of(signs, thing):
    # More than one sign in a row, or none at all, would be found within the signs too.
    return is_text(thing) and len(thing) == 1 and thing in signs


def are_trees_of(parts, thing):
    if not isinstance(thing, tuple) or len(thing) != len(parts):
        return False
    return all([is_tree(part, inner) for part, inner in zip(parts, thing)])


def are_turns_of(part, thing):
    return isinstance(thing, tuple) and all([is_tree(part, turn) for turn in thing])


def is_picked_of(parts, number, thing):
    return is_whole(number) and 0 <= number < len(parts) and is_tree(parts[number], thing)


def is_label(label, thing):
    # To Python True is 1 and False is 0, but they are no numbers of a price.
    return not isinstance(thing, bool) and thing == label


def is_tree(pattern, thing):
    kind = pattern[0]
    if not isinstance(thing, tuple) or len(thing) != LENGTHS.get(kind) or thing[0] != kind:
        return False
    if kind == "sign":
        return is_one_of(pattern[1], thing[1])
    if kind == "row":
        return are_trees_of(pattern[1], thing[1])
    if kind == "pick":
        return is_picked_of(pattern[1], thing[1], thing[2])
    if kind == "again":
        return are_turns_of(pattern[1], thing[1])
    if kind in ("held", "price"):
        return is_label(pattern[1], thing[1]) and is_tree(pattern[2], thing[2])
    return True


def inner_trees(tree):
    kind = tree[0]
    if kind in ("row", "again"):
        return tree[1]
    if kind in ("pick", "held", "price"):
        return (tree[2],)
    return ()


# The trees straight within a tree, each with the number of its make; parts are the numbers of the parts of the make of
# the tree itself.
def trees_by_makes(tree, parts):
    if tree[0] == "pick":
        return [(tree[2], parts[tree[1]])]
    if tree[0] == "again":
        return [(turn, parts[0]) for turn in tree[1]]
    return list(zip(inner_trees(tree), parts))


# All trees within a tree, itself too, in the order of writing.
def trees_within(tree):
    found = []
    waiting = [tree]
    while len(waiting) > 0:
        inner = waiting.pop()
        found.append(inner)
        waiting.extend(inner_trees(inner)[::-1])
    return found


def text_of(tree):
    return "".join([inner[1] for inner in trees_within(tree) if inner[0] == "sign"])


def caught_of(tree):
    caught = []
    at = 0
    for inner in trees_within(tree):
        if inner[0] == "sign":
            at += 1
        if inner[0] == "held":
            caught.append((inner[1], at, at + len(text_of(inner))))
    return caught


def price_of(tree):
    return sum([inner[1] for inner in trees_within(tree) if inner[0] == "price"])
