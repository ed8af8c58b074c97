"""0.1 to 0.4 over the whole program: of drawn patterns, texts and tastes all its parts tell one and the same."""

import copy
import inspect
import random
import unittest

from tastegrove import (against, alike, counts, desk, errors, finds, growth, marks, numbers, papers, patterns, places, runs,
                        tables, tastes, texts, trees, twos, walks, words)
from tests.samples import A, AB, again, chance_patterns, held, pick, price, row, sign_makes, slow_trees, texts_up_to
from tests.test_leans import DEEP, LEANING
from tests.test_tastes import TASTES, order

# By modules the names of the interface with their arguments.
INTERFACE = (
    (words, "is_word(thing) is_whole(thing) is_text(thing)"),
    (patterns, "is_pattern(thing) can_be_blank(pattern) has_texts(pattern) makes_of(pattern) parts_of(pattern) "
               "depth_of(pattern) signs_of(pattern)"),
    (trees, "is_tree(pattern,thing) text_of(tree) caught_of(tree) price_of(tree)"),
    (marks, "marks_of(tree) tree_by(pattern,marks,text)"),
    (counts, "fits(pattern,text) many(pattern,text)"),
    (numbers, "trees(pattern,text) tree_at(pattern,text,k) number_of(pattern,tree)"),
    (tastes, "is_ahead(taste,one,other) told(pattern,taste,text)"),
    (places, "places_of(pattern) starts(pattern) blanks(pattern) steps(pattern,place) ends(pattern,place) reached(pattern)"),
    (runs, "run_of(pattern,tree) tree_of(pattern,text,run) is_run(pattern,text,run)"),
    (walks, "walked(pattern,taste,text)"),
    (papers, "paper_of(pattern,taste,text) lets(pattern,taste,text,tree,paper)"),
    (twos, "two_trees(pattern) lets_one(pattern,paper)"),
    (against, "held_against(pattern,one,other) lets_against(pattern,one,other,paper)"),
    (tables, "table_of(pattern,taste) told_by(pattern,table,text)"),
    (alike, "told_apart(pattern,one,other) lets_same(pattern,one,other,paper)"),
    (finds, "caught_at(pattern,taste,text,at) finds_of(pattern,taste,text) put_for(pattern,taste,text,template)"),
    (growth, "growth_of(pattern) lets_bounded(pattern,pairs,threes)"),
    (texts, "pattern_text(pattern) tree_text(tree) read_pattern(thing)"),
)
REFUSALS = ("NoTree", "NoTaste", "TooMany", "NoText", "NoName", "NoRow")


def drawn(seed, count):
    return [pattern for pattern in chance_patterns(seed, count, 4) if patterns.is_pattern(pattern)] + list(DEEP)


class Interface(unittest.TestCase):
    def test_names_and_arguments(self):
        for module, listed in INTERFACE:
            for one in listed.split():
                name, arguments = one.rstrip(")").split("(")
                function = getattr(module, name)
                self.assertEqual(",".join(inspect.signature(function).parameters), arguments)
        self.assertEqual(list(inspect.signature(walks.Walk).parameters), ["pattern", "taste"])
        self.assertEqual(list(inspect.signature(desk.Desk).parameters), [])
        for owner, method in ((walks.Walk, "take sign"), (walks.Walk, "text"), (walks.Walk, "kept"), (walks.Walk, "beginning place"),
                              (walks.Walk, "told"), (desk.Desk, "say row")):
            name, *arguments = method.split()
            self.assertEqual(list(inspect.signature(getattr(owner, name)).parameters), ["self"] + arguments)

    def test_refusals(self):
        self.assertEqual(errors.GroveError.__bases__, (ValueError,))
        for name in REFUSALS:
            self.assertEqual(getattr(errors, name).__bases__, (errors.GroveError,))


class OneTree(unittest.TestCase):
    def test_told_walked_table_paper_and_desk_are_one(self):
        source = random.Random(231)
        looked_at = 0
        for pattern in drawn(232, 150):
            sitting = desk.Desk()
            sitting.say("keep x " + texts.pattern_text(pattern))
            made = {taste: tables.table_of(pattern, taste) for taste in LEANING}
            for text in source.sample(texts_up_to("ab", 5), 12) + ["c"]:
                whole = slow_trees(pattern, text)
                self.assertEqual(counts.many(pattern, text), len(whole))
                for taste in TASTES:
                    tree = walks.walked(pattern, taste, text)
                    self.assertEqual(tree, min(whole, key=lambda one: order(taste, one), default=None))
                    if len(whole) <= 200:
                        self.assertEqual(tastes.told(pattern, taste, text), tree)
                    if taste in LEANING:
                        self.assertEqual(tables.told_by(pattern, made[taste], text), tree)
                    known, paper = papers.paper_of(pattern, taste, text)
                    self.assertEqual(known, tree)
                    self.assertIs(papers.lets(pattern, taste, text, tree, paper), True)
                    self.assertEqual(sitting.say(f"tell x {taste} {text}"), "none" if tree is None else texts.tree_text(tree))
                    if tree is not None:
                        self.assertFalse(any(tastes.is_ahead(taste, other, tree) for other in whole[:20]))
                        self.assertEqual(numbers.tree_at(pattern, text, numbers.number_of(pattern, tree)), tree)
                        self.assertEqual(runs.tree_of(pattern, text, runs.run_of(pattern, tree)), tree)
                        self.assertEqual(marks.tree_by(pattern, marks.marks_of(tree), text), tree)
                        looked_at += 1
        self.assertGreater(looked_at, 1000)


class NeverBoth(unittest.TestCase):
    # Papers told for other patterns and tastes, and such with all that may be in them.
    def test_a_text_or_a_let_paper(self):
        for pattern in drawn(233, 150):
            count = sign_makes(pattern)
            every = [(p, q) for p in range(count) for q in range(p, count)]
            answer = twos.two_trees(pattern)
            for paper in [[], every] + ([answer[1]] if answer[0] == "one" else []):
                self.assertFalse(twos.lets_one(pattern, paper) and answer[0] == "two")
            if answer[0] == "one":
                self.assertIs(twos.lets_one(pattern, answer[1]), True)
            for one in LEANING:
                for other in LEANING:
                    self.look_at(pattern, one, other)

    def look_at(self, pattern, one, other):
        put, told = against.held_against(pattern, one, other), alike.told_apart(pattern, one, other)
        same = against.held_against(pattern, one, one)[1], alike.told_apart(pattern, one, one)[1]
        self.assertFalse(put[0] == "alike" and told[0] == "apart")
        if put[0] == "alike":
            self.assertIs(against.lets_against(pattern, one, other, put[1]), True)
        else:
            self.assertIs(against.lets_against(pattern, one, other, same[0]), False)
            self.assertGreater(counts.many(pattern, put[1]), 1)
        if told[0] == "same":
            self.assertIs(alike.lets_same(pattern, one, other, told[1]), True)
        else:
            self.assertIs(alike.lets_same(pattern, one, other, same[1]), False)
            self.assertNotEqual(walks.walked(pattern, one, told[1]), walks.walked(pattern, other, told[1]))

    # A pattern of which no text has two trees is bounded, and all tastes are alike on it.
    def test_one_tree_of_each_text(self):
        for pattern in drawn(234, 150):
            if twos.two_trees(pattern)[0] == "one":
                for one in LEANING:
                    self.assertEqual(against.held_against(pattern, one, "first")[0], "alike")
                    self.assertEqual(alike.told_apart(pattern, one, "first")[0], "same")
                if sign_makes(pattern) <= 6:
                    self.assertEqual(growth.growth_of(pattern)[0], "bounded")


class Own(unittest.TestCase):
    PATTERN = row(held("x", again(pick(price(1, A), row(A, AB)))), again(AB))

    # All that is asked about a pattern, with what is handed in.
    def questions(self):
        pattern, text = self.PATTERN, "aab"
        tree = walks.walked(pattern, "first", text)
        run = runs.run_of(pattern, tree)
        yield patterns.makes_of, [pattern]
        yield patterns.parts_of, [pattern]
        yield trees.caught_of, [tree]
        yield numbers.trees, [pattern, text]
        for ask in (places.places_of, places.starts, places.blanks, places.reached):
            yield ask, [pattern]
        for ask in (places.steps, places.ends):
            yield ask, [pattern, 0]
        yield runs.run_of, [pattern, tree]
        yield runs.tree_of, [pattern, text, run]
        yield runs.is_run, [pattern, text, run]
        yield twos.two_trees, [pattern]
        yield twos.lets_one, [pattern, [(0, 1), (0, 0)]]
        yield growth.growth_of, [pattern]
        yield growth.lets_bounded, [pattern, [(0, 0, 1)], [(0, 1, 0, 0, 1)]]
        for taste in TASTES:
            known, paper = papers.paper_of(pattern, taste, text)
            yield papers.paper_of, [pattern, taste, text]
            yield papers.lets, [pattern, taste, text, known, paper]
            yield finds.finds_of, [pattern, taste, text]
            yield finds.put_for, [pattern, taste, text, (("name", "x"), ("text", "-"))]
        for taste in LEANING:
            yield tables.table_of, [pattern, taste]
            yield tables.told_by, [pattern, tables.table_of(pattern, taste), text]
            yield against.held_against, [pattern, taste, "long"]
            yield against.lets_against, [pattern, taste, "long", [(0, 1, 0, 0, 0)]]
            yield alike.told_apart, [pattern, taste, "long"]
            yield alike.lets_same, [pattern, taste, "long", [(0, 0, ())]]

    # Empties each list and dict within.
    def spoil(self, thing):
        if isinstance(thing, (list, tuple)):
            for inner in thing:
                self.spoil(inner)
        if isinstance(thing, dict):
            for inner in thing.values():
                self.spoil(inner)
        if isinstance(thing, (list, dict)):
            thing.clear()

    def test_asked_changed_and_asked_again(self):
        for ask, handed in self.questions():
            kept = copy.deepcopy(handed)
            answer = ask(*handed)
            self.assertEqual(handed, kept, ask)
            told = copy.deepcopy(answer)
            self.spoil(answer)
            self.assertEqual(handed, kept, ask)
            again_told = ask(*handed)
            self.assertEqual(again_told, told, ask)
            self.assertEqual(repr(again_told), repr(told), ask)


if __name__ == "__main__":
    unittest.main()
