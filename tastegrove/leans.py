"""Leans: which of two beginnings of one text is ahead so far, and how many rooms they have in common."""

from tastegrove.tastes import first_unlike

# A standing of two beginnings, by one of the tastes but cheap, is a pair (common, lean): how many rooms they have in
# common, which are the outermost ones of both; and 0 where the one is ahead so far, 1 where the other is.


def exchanged(standing):
    return (standing[0], 1 - standing[1])


# One and other are in how many of the common rooms the two stay: by long and short leaving one that the other stays in
# outweighs all that came ahead, which lies within that room.
def lean_by_rooms(taste, lean, one, other):
    if taste not in ("long", "short") or one == other:
        return lean
    return 0 if (one > other) == (taste == "long") else 1


# The standing of two unlike trails of one list.
def standing_of(taste, one, other):
    if other.marks < one.marks:
        return exchanged(standing_of(taste, other, one))
    at = first_unlike(one.marks, other.marks)
    lean = 1 if taste == "shy" and one.of_agains[at] else 0
    stays = (one.stays[at + 1], other.stays[at + 1])
    return (min(stays), lean_by_rooms(taste, lean, stays[0], stays[1]))


# The standing of two beginnings that had this one and are gone on with by a trail each.
def gone_on(taste, standing, one, other):
    stays = (min(standing[0], one.stays[0]), min(standing[0], other.stays[0]))
    return (min(stays), lean_by_rooms(taste, standing[1], stays[0], stays[1]))
