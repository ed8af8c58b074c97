"""Papers: with each told tree one that shows that none is ahead of it, or that there is none, and who may let it by."""

from tastegrove.heights import are_heights_of_tree, heights_of
from tastegrove.rests import are_rests_of_none, are_rests_of_tree, rests_of
from tastegrove.spans import are_spans_of_tree, spans_of
from tastegrove.tastes import check_taste
from tastegrove.walks import walked


def paper_of(pattern, taste, text):
    tree = walked(pattern, taste, text)
    if tree is None or taste in ("first", "shy"):
        return (tree, rests_of(pattern, text))
    if taste == "cheap":
        return (tree, heights_of(pattern, text))
    return (tree, spans_of(pattern, text))


def lets(pattern, taste, text, tree, paper):
    check_taste(taste)
    if tree is None:
        return are_rests_of_none(pattern, text, paper)
    if taste in ("first", "shy"):
        return are_rests_of_tree(pattern, taste, text, tree, paper)
    if taste == "cheap":
        return are_heights_of_tree(pattern, text, tree, paper)
    return are_spans_of_tree(pattern, taste, text, tree, paper)
