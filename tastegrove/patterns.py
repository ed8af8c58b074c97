"""Patterns: their form, their makes, and what is known of them without a text."""

from tastegrove.words import is_text, is_whole, is_word

DEEPEST = 9
MOST_MAKES = 40
FEWEST_PARTS = 2
MOST_PARTS = 6
HIGHEST_PRICE = 1000
# How long the tuple of each kind is.
LENGTHS = {"none": 1, "blank": 1, "sign": 2, "row": 2, "pick": 2, "again": 2, "held": 3, "price": 3}


def inner_patterns(pattern):
    kind = pattern[0]
    if kind in ("row", "pick"):
        return pattern[1]
    if kind == "again":
        return (pattern[1],)
    if kind in ("held", "price"):
        return (pattern[2],)
    return ()


def are_rising_signs(thing):
    if not is_text(thing) or thing == "":
        return False
    return all([one < after for one, after in zip(thing, thing[1:])])


def has_kind(thing):
    if not isinstance(thing, tuple) or len(thing) == 0 or not isinstance(thing[0], str):
        return False
    return LENGTHS.get(thing[0]) == len(thing)


# Of a make by itself: its parts are only counted.
def is_make(thing):
    if not has_kind(thing):
        return False
    kind = thing[0]
    if kind == "sign":
        return are_rising_signs(thing[1])
    if kind in ("row", "pick"):
        return isinstance(thing[1], tuple) and FEWEST_PARTS <= len(thing[1]) <= MOST_PARTS
    if kind == "held":
        return is_word(thing[1])
    if kind == "price":
        return is_whole(thing[1]) and 0 <= thing[1] <= HIGHEST_PRICE
    return True


# One tuple may stand at very many places of a thing: so the makes are counted while they are gone
# through, and no more of them are looked at than a pattern has.
def is_made_of_makes(thing):
    waiting = [(thing, 1)]
    seen = 0
    while len(waiting) > 0:
        pair = waiting.pop()
        depth = pair[1]
        seen += 1
        if depth > DEEPEST or seen > MOST_MAKES or not is_make(pair[0]):
            return False
        for part in inner_patterns(pair[0]):
            waiting.append((part, depth + 1))
    return True


def is_pattern(thing):
    if not is_made_of_makes(thing):
        return False
    for make in makes_of(thing):
        if make[0] == "again" and can_be_blank(make[1]):
            return False
    return True


def can_be_blank(pattern):
    kind = pattern[0]
    if kind in ("blank", "again"):
        return True
    if kind in ("none", "sign"):
        return False
    answers = [can_be_blank(part) for part in inner_patterns(pattern)]
    return any(answers) if kind == "pick" else all(answers)


def has_texts(pattern):
    kind = pattern[0]
    if kind == "none":
        return False
    if kind in ("blank", "sign", "again"):
        return True
    answers = [has_texts(part) for part in inner_patterns(pattern)]
    return any(answers) if kind == "pick" else all(answers)


def makes_of(pattern):
    makes = []
    waiting = [pattern]
    while len(waiting) > 0:
        make = waiting.pop()
        makes.append(make)
        waiting.extend(inner_patterns(make)[::-1])
    return makes


def parts_of(pattern):
    makes = makes_of(pattern)
    sizes = [1 for make in makes]
    parts = [() for make in makes]
    # From the last make on, as the parts of each come behind it, one behind all that is in the other.
    for number in range(len(makes) - 1, -1, -1):
        numbers = []
        for part in inner_patterns(makes[number]):
            numbers.append(number + sizes[number])
            sizes[number] += sizes[numbers[-1]]
        parts[number] = tuple(numbers)
    return parts


def depth_of(pattern):
    return 1 + max([depth_of(part) for part in inner_patterns(pattern)], default=0)


def signs_of(pattern):
    found = "".join([make[1] for make in makes_of(pattern) if make[0] == "sign"])
    return "".join(sorted(set(found)))
