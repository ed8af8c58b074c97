"""Whole numbers, signs, texts and words."""

LETTERS = "abcdefghijklmnopqrstuvwxyz"
# Written out in rising order: all from the blank to the tilde but the one sign that is none.
SIGNS = " !\"#$&'()*+,-./0123456789:;<=>?@ABCDEFGHIJKLMNOPQRSTUVWXYZ[\\]^_`abcdefghijklmnopqrstuvwxyz{|}~"
LONGEST_WORD = 8


def is_whole(thing):
    # True and False are ints to Python, but no whole numbers here.
    return isinstance(thing, int) and not isinstance(thing, bool)


def is_text(thing):
    return isinstance(thing, str) and all([sign in SIGNS for sign in thing])


def is_word(thing):
    if not isinstance(thing, str) or not 1 <= len(thing) <= LONGEST_WORD:
        return False
    return all([letter in LETTERS for letter in thing])
