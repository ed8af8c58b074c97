"""Desk: patterns kept by names, and rows of words by which they are kept and asked about."""

from tastegrove.against import held_against
from tastegrove.alike import told_apart
from tastegrove.counts import many
from tastegrove.errors import NoName, NoRow
from tastegrove.finds import finds_of
from tastegrove.growth import growth_of
from tastegrove.patterns import makes_of
from tastegrove.tastes import check_leaning, check_taste
from tastegrove.texts import pattern_text, read_pattern, tree_text
from tastegrove.trees import caught_of
from tastegrove.twos import two_trees
from tastegrove.walks import walked
from tastegrove.words import is_text, is_word

LONGEST_TEXT = 60
# By the first word of a row what follows on it.
FORMS = {
    "keep": ("NAME", "PATTERN"), "drop": ("NAME",), "undo": (), "names": (), "show": ("NAME",),
    "tell": ("NAME", "TASTE", "TEXT"), "caught": ("NAME", "TASTE", "TEXT"), "many": ("NAME", "TEXT"),
    "finds": ("NAME", "TASTE", "TEXT"), "two": ("NAME",), "against": ("NAME", "TASTE", "TASTE"),
    "apart": ("NAME", "TASTE", "TASTE"), "grows": ("NAME",),
}


# Of a row that has the form: its words, at last a text that may have blanks.
def words_of(row):
    if not isinstance(row, str):
        raise NoRow("this is no row")
    form = FORMS.get(row.split(" ")[0])
    if form is None:
        raise NoRow("no row begins so")
    words = row.split(" ", len(form)) if form[-1:] in (("TEXT",), ("PATTERN",)) else row.split(" ")
    if len(words) != len(form) + 1 or not all([is_in_form(kind, word) for kind, word in zip(form, words[1:])]):
        raise NoRow("a word of the row is missing, too many or none that can stand there")
    return words


def is_in_form(kind, word):
    if kind == "NAME":
        return is_word(word)
    if kind == "TASTE":
        return word != ""
    return kind == "PATTERN" or (is_text(word) and len(word) <= LONGEST_TEXT)


def check_tastes(words):
    for kind, word in zip(FORMS[words[0]], words[1:]):
        if kind == "TASTE" and words[0] in ("against", "apart"):
            check_leaning(word)
        elif kind == "TASTE":
            check_taste(word)


def said_of_tree(tree):
    return "none" if tree is None else tree_text(tree)


def said_of_stretches(stretches):
    return "-" if len(stretches) == 0 else "; ".join(stretches)


def said_of_caught(tree):
    if tree is None:
        return "none"
    return said_of_stretches([f"{name} {begin} {end}" for name, begin, end in caught_of(tree)])


def said_of_finds(found):
    return said_of_stretches([f"{begin} {end}" for begin, end, tree in found])


# Of an answer that is a text, where it has the word, or else a paper, of which nothing is said.
def said_of_answer(answer, word):
    return word + " " + answer[1] if answer[0] == word else answer[0]


# What a question about one pattern is answered; words are those behind the name.
def answer_to(question, pattern, words):
    if question == "show":
        return pattern_text(pattern)
    if question == "tell":
        return said_of_tree(walked(pattern, words[0], words[1]))
    if question == "caught":
        return said_of_caught(walked(pattern, words[0], words[1]))
    if question == "many":
        return str(many(pattern, words[0]))
    if question == "finds":
        return said_of_finds(finds_of(pattern, words[0], words[1]))
    if question == "two":
        return said_of_answer(two_trees(pattern), "two")
    if question == "against":
        return said_of_answer(held_against(pattern, words[0], words[1]), "unlike")
    if question == "apart":
        return said_of_answer(told_apart(pattern, words[0], words[1]), "apart")
    return growth_of(pattern)[0]


class Desk:
    def __init__(self):
        self.patterns = {}
        # For each keep and drop that was not taken back the name, and the pattern that stood there or None.
        self.changes = []

    def say(self, row):
        words = words_of(row)
        if words[0] == "undo":
            return self.undo()
        if words[0] == "names":
            return " ".join(sorted(self.patterns)) if len(self.patterns) > 0 else "-"
        check_tastes(words)
        if words[0] == "keep":
            return self.keep(words[1], read_pattern(words[2]))
        if words[1] not in self.patterns:
            raise NoName("nothing stands under this name")
        if words[0] == "drop":
            return self.drop(words[1])
        return answer_to(words[0], self.patterns[words[1]], words[2:])

    def keep(self, name, pattern):
        self.changes.append((name, self.patterns.get(name)))
        self.patterns[name] = pattern
        return "makes " + str(len(makes_of(pattern)))

    def drop(self, name):
        self.changes.append((name, self.patterns.pop(name)))
        return "ok"

    def undo(self):
        if len(self.changes) == 0:
            raise NoRow("there is nothing to take back")
        change = self.changes.pop()
        if change[1] is None:
            self.patterns.pop(change[0])
        else:
            self.patterns[change[0]] = change[1]
        return "ok"
