"""14.2 and 14.3: a desk keeps patterns by names and answers rows about them."""

import unittest

from tastegrove.against import held_against
from tastegrove.alike import told_apart
from tastegrove.counts import many
from tastegrove.desk import Desk
from tastegrove.errors import NoName, NoRow, NoTaste, NoText, TooMany
from tastegrove.finds import finds_of
from tastegrove.growth import growth_of
from tastegrove.texts import pattern_text, tree_text
from tastegrove.trees import caught_of
from tastegrove.twos import two_trees
from tastegrove.walks import walked
from tests.samples import (A, AB, B, BLANK, FULL, HUGE_ONES, ONE_MORE, OVERFULL, PATTERNS, SIGNS, SIXTY, again, held, pick,
                           price, row, sign_makes)
from tests.test_leans import DEEP, LEANING
from tests.test_tables import ONE_ROW_MORE
from tests.test_tastes import TASTES

NO_ROWS = (None, True, False, 0, -1, 10 ** 40, (), ("names",), ["names"], [], {}, {"names": 1})


def desk_with(**patterns):
    desk = Desk()
    for name in patterns:
        desk.say(f"keep {name} {pattern_text(patterns[name])}")
    return desk


# All that the desk may be asked about its names and patterns.
def state_of(desk):
    names = desk.say("names")
    return names, [desk.say("show " + name) for name in names.split(" ") if names != "-"]


class Rows(unittest.TestCase):
    def talk(self, desk, *pairs):
        for said, answer in pairs:
            self.assertEqual(desk.say(said), answer, said)

    def test_keep_show_names_drop(self):
        desk = Desk()
        self.talk(desk, ("names", "-"), ("keep x [a]", "makes 1"), ("names", "x"), ("show x", "[a]"),
                  ("keep ab ([a] | *[b])", "makes 4"), ("names", "ab x"), ("keep zzzzzzzz -", "makes 1"),
                  ("names", "ab x zzzzzzzz"), ("keep x (- - 3$!)", "makes 5"), ("show x", "(- - 3$!)"),
                  ("show ab", "([a] | *[b])"), ("drop x", "ok"), ("names", "ab zzzzzzzz"), ("drop zzzzzzzz", "ok"),
                  ("drop ab", "ok"), ("names", "-"), ("keep keep [ ]", "makes 1"), ("show keep", "[ ]"),
                  ("keep names (x:*[ab] | 3$(- [\\]c]))", "makes 8"), ("show names", "(x:*[ab] | 3$(- [\\]c]))"),
                  ("names", "keep names"))

    def test_tell_and_caught(self):
        desk = desk_with(x=row(held("x", again(A)), held("y", again(AB))), b=again(row(BLANK, A)), n=pick(A, BLANK))
        self.talk(desk, ("tell x first aa", "(x:*([a] [a]) y:*())"), ("tell x shy aa", "(x:*() y:*([a] [a]))"),
                  ("tell x long aab", "(x:*([a] [a]) y:*([b]))"), ("tell x short ", "(x:*() y:*())"), ("tell x cheap c", "none"),
                  ("caught x first aab", "x 0 2; y 2 3"), ("caught x short aab", "x 0 0; y 0 3"), ("caught x first ", "x 0 0; y 0 0"),
                  ("caught x first c", "none"), ("caught b first aa", "-"), ("caught b first ", "-"), ("caught b first c", "none"),
                  ("tell n first ", "1=-"), ("tell n first a", "0=[a]"), ("tell n first  ", "none"), ("caught n cheap a", "-"))

    def test_blanks_belong_to_the_text(self):
        desk = desk_with(x=again(("sign", " a")))
        self.talk(desk, ("tell x first  a ", "*([ ] [a] [ ])"), ("many x   ", "1"), ("many x  ", "1"), ("many x ", "1"),
                  ("finds x first  b ", "0 1; 1 1; 2 3; 3 3"), ("tell x first first", "none"), ("many x a a", "1"),
                  ("caught x first a  a", "-"), ("caught x first a b", "none"))
        desk = desk_with(x=again(("sign", SIGNS)))
        for text in (SIGNS[:60], SIGNS[-60:], "names", "tell x first a", "  ", "undo"):
            self.assertEqual(desk.say("many x " + text), "1")
            self.assertEqual(desk.say("tell x long " + text), tree_text(walked(again(("sign", SIGNS)), "long", text)))

    def test_many_and_finds(self):
        desk = desk_with(p=row(again(A), again(A)), q=again(pick(A, row(A, A))), r=row(A, B), m=ONE_MORE, o=OVERFULL)
        self.talk(desk, ("many p aa", "3"), ("many p ", "1"), ("many p b", "0"), ("many p " + SIXTY, "61"),
                  ("many q " + SIXTY, str(many(again(pick(A, row(A, A))), SIXTY))), ("many m " + SIXTY, "201"),
                  ("finds r first abcab", "0 2; 3 5"), ("finds r cheap ba", "-"), ("finds p first aba", "0 1; 1 1; 2 3; 3 3"),
                  ("finds p short ab", "0 0; 1 1; 2 2"), ("finds r long ", "-"), ("finds p long ", "0 0"), ("many o a", "16"))

    def test_two_against_apart_grows(self):
        desk = desk_with(p=row(again(A), again(A)), s=row(again(A), B), b=pick(BLANK, A, BLANK), d=again(pick(A, A)),
                         k=pick(again(A), row(again(A), again(A))), g=row(("sign", " "), pick(BLANK, BLANK)))
        self.talk(desk, ("two p", "two a"), ("two s", "one"), ("two b", "two "), ("two g", "two  "),
                  ("against p first shy", "unlike a"), ("against p first long", "alike"), ("against s long long", "alike"),
                  ("apart p first short", "apart a"), ("apart p shy short", "same"), ("apart k first shy", "same"),
                  ("against k first shy", "unlike a"), ("grows p", "rising"), ("grows s", "bounded"), ("grows d", "doubling"))

    def test_as_the_stages_tell(self):
        for pattern in PATTERNS + DEEP:
            desk = desk_with(x=pattern)
            two = two_trees(pattern)
            self.assertEqual(desk.say("two x"), "one" if two[0] == "one" else "two " + two[1])
            if sign_makes(pattern) <= 6:
                self.assertEqual(desk.say("grows x"), growth_of(pattern)[0])
            for one in LEANING:
                for other in LEANING:
                    held, told = held_against(pattern, one, other), told_apart(pattern, one, other)
                    self.assertEqual(desk.say(f"against x {one} {other}"),
                                     "alike" if held[0] == "alike" else "unlike " + held[1])
                    self.assertEqual(desk.say(f"apart x {one} {other}"), "same" if told[0] == "same" else "apart " + told[1])
            for text in ("", "a", "aab", "c"):
                self.assertEqual(desk.say("many x " + text), str(many(pattern, text)))
                for taste in TASTES:
                    tree = walked(pattern, taste, text)
                    self.assertEqual(desk.say(f"tell x {taste} {text}"), "none" if tree is None else tree_text(tree))
                    caught = "none" if tree is None else "; ".join("%s %s %s" % one for one in caught_of(tree)) or "-"
                    self.assertEqual(desk.say(f"caught x {taste} {text}"), caught)
                    found = "; ".join(f"{find[0]} {find[1]}" for find in finds_of(pattern, taste, text)) or "-"
                    self.assertEqual(desk.say(f"finds x {taste} {text}"), found)
            self.assertEqual(state_of(desk), ("x", [pattern_text(pattern)]))


class Undo(unittest.TestCase):
    def test_several_in_a_row(self):
        desk = Desk()
        states = [state_of(desk)]
        rows = ("keep x [a]", "keep y [b]", "keep x -", "drop y", "keep y !", "keep y !", "drop x", "keep z *[a]", "keep x [c]")
        for said in rows:
            desk.say(said)
            states.append(state_of(desk))
        for state in states[-2::-1]:
            self.assertEqual(desk.say("undo"), "ok")
            self.assertEqual(state_of(desk), state)
        for k in range(2):
            with self.assertRaises(NoRow):
                desk.say("undo")
        self.assertEqual(state_of(desk), ("-", []))

    def test_behind_questions_and_refusals(self):
        desk = desk_with(x=A)
        desk.say("keep x [b]")
        for said in ("names", "show x", "tell x first a", "many x a", "finds x first a", "two x", "grows x"):
            desk.say(said)
        for said in ("keep y [", "drop y", "keep x (-)", "nothing", "tell x best a"):
            with self.assertRaises((NoText, NoName, NoRow, NoTaste)):
                desk.say(said)
        self.assertEqual(desk.say("undo"), "ok")
        self.assertEqual(desk.say("show x"), "[a]")
        self.assertEqual(desk.say("undo"), "ok")
        self.assertEqual(desk.say("names"), "-")

    # What is taken back is gone: what comes next is taken back first, and then what was ahead of both.
    def test_between_others(self):
        desk = Desk()
        for said in ("keep a -", "keep b -", "undo", "keep c -", "undo", "undo"):
            desk.say(said)
        self.assertEqual(desk.say("names"), "-")
        for said in ("keep a -", "drop a", "undo", "keep b !", "keep a [a]", "undo"):
            desk.say(said)
        self.assertEqual(state_of(desk), ("a b", ["-", "!"]))
        for said in ("undo", "undo"):
            desk.say(said)
        self.assertEqual(desk.say("names"), "-")

    def test_a_thousand_keeps(self):
        desk = Desk()
        names = [a + b + c for a in "abcdefghij" for b in "abcdefghij" for c in "abcdefghij"]
        for k, name in enumerate(names):
            self.assertEqual(desk.say(f"keep {name} {k}$-"), "makes 2")
        self.assertEqual(desk.say("names"), " ".join(names))
        for k, name in enumerate(names):
            self.assertEqual(desk.say("show " + name), f"{k}$-")
        for name in names[::-1]:
            desk.say("undo")
        self.assertEqual(desk.say("names"), "-")
        for k in range(1000):
            desk.say(f"keep x {k}$-")
        for k in range(998, -1, -1):
            desk.say("undo")
            self.assertEqual(desk.say("show x"), f"{k}$-")

    def test_two_desks_do_not_disturb_one_another(self):
        one, other = Desk(), Desk()
        one.say("keep x [a]")
        self.assertEqual(other.say("names"), "-")
        with self.assertRaises(NoRow):
            other.say("undo")
        other.say("keep x [b]")
        other.say("keep y [b]")
        one.say("undo")
        self.assertEqual(state_of(one), ("-", []))
        self.assertEqual(state_of(other), ("x y", ["[b]", "[b]"]))


class Refusals(unittest.TestCase):
    def refused(self, desk, error, *rows):
        for said in rows:
            before = state_of(desk)
            with self.assertRaises(error, msg=repr(said)) as caught:
                desk.say(said)
            self.assertIs(type(caught.exception), error)
            self.assertEqual(state_of(desk), before)

    def test_no_rows(self):
        desk = desk_with(x=A, y=row(A, B))
        self.refused(desk, NoRow, *NO_ROWS)
        self.refused(desk, NoRow, "", " ", "  ", "name", "Names", "NAMES", "names ", " names", "names x", "names\n", "\nnames",
                     "undo ", "undo x", " undo", "hello", "x", "keepx [a]", "tells x first a", "\tnames", "names\t")
        # A word too few, one too many, an empty one.
        self.refused(desk, NoRow, "keep", "keep ", "keep x", "keep  [a]", "drop", "drop ", "drop x ", "drop x y", "drop  x",
                     "show", "show ", "show x ", "show x y", "show  x", "tell", "tell ", "tell x", "tell x ", "tell x first",
                     "tell  first a", "tell x  a", "tell x  ", "tell   ", "caught x first", "caught x  a", "finds x first",
                     "finds x  a", "finds x ", "many", "many ", "many x", "many  a", "many  ", "two", "two ", "two x ", "two x y",
                     "two  x", "against x", "against x first", "against x first ", "against x first shy ", "against x  shy",
                     "against x first shy long", "against  first shy", "against x first  shy", "apart x first", "apart x first ",
                     "apart x  first", "apart x first shy ", "apart first shy", "grows", "grows ", "grows x ", "grows x y")
        # A name that is no word.
        for name in ("X", "x1", "abcdefghi", "x-", "1", "x\n", "\tx", "-", "x_y"):
            self.refused(desk, NoRow, f"keep {name} [a]", f"drop {name}", f"show {name}", f"tell {name} first a",
                         f"caught {name} first a", f"many {name} a", f"finds {name} first a", f"two {name}", f"grows {name}",
                         f"against {name} first shy", f"apart {name} first shy")
        # A text that is too long or has what is no sign.
        for text in (SIXTY + "a", "a" * 1000, "a\n", "\t", "a%", "%", "a\nb", " " * 61):
            self.refused(desk, NoRow, "tell x first " + text, "caught x first " + text, "many x " + text, "finds x first " + text)
        for text in (SIXTY, " " * 60):
            self.assertEqual(desk.say("tell x first " + text), "none")
            self.assertEqual(desk.say("many x " + text), "0")

    def test_nothing_to_take_back(self):
        self.refused(Desk(), NoRow, "undo")

    def test_no_tastes(self):
        desk = desk_with(x=A)
        for word in ("best", "First", "firs", "firstt", "x", "1", "\n", "cheap\t", "LONG", "longlonglong", "-"):
            for name in ("x", "nobody"):
                self.refused(desk, NoTaste, f"tell {name} {word} a", f"caught {name} {word} a", f"finds {name} {word} ",
                             f"against {name} {word} shy", f"against {name} first {word}", f"against {name} {word} {word}",
                             f"apart {name} {word} shy", f"apart {name} first {word}", f"apart {name} cheap {word}")
        self.refused(desk, NoTaste, "against x cheap first", "against x first cheap", "apart x cheap first", "apart x first cheap",
                     "against nobody cheap cheap", "apart nobody cheap cheap")
        for said in ("tell x cheap a", "caught x cheap a", "finds x cheap a"):
            desk.say(said)

    def test_no_names(self):
        desk = desk_with(x=A)
        self.refused(desk, NoName, "drop y", "show y", "tell y first a", "caught y cheap a", "many y a", "finds y long ", "two y",
                     "against y first shy", "apart y first shy", "grows y")
        desk.say("drop x")
        self.refused(desk, NoName, "drop x", "show x", "two x")
        desk.say("undo")
        self.assertEqual(desk.say("two x"), "one")

    def test_no_texts(self):
        desk = desk_with(x=A)
        self.refused(desk, NoText, "keep x ", "keep x  [a]", "keep x [a] ", "keep y a", "keep y [", "keep y *-", "keep y (-)",
                     "keep y 1001$-", "keep y [a]\n", "keep y [%]", "keep y " + "x:" * 9 + "-", "keep y " + "(" * 600,
                     "keep y *", "keep x names")
        six = row(*[("sign", SIGNS)] * 6)
        self.assertEqual(desk.say("keep y " + pattern_text(held("abcd", six))), "makes 8")
        self.refused(desk, NoText, "keep y " + pattern_text(held("abcde", six)))

    def test_as_the_stages_refuse(self):
        desk = desk_with(o=OVERFULL, h=HUGE_ONES[1], f=FULL, t=ONE_ROW_MORE)
        for name in ("o", "h"):
            self.refused(desk, TooMany, f"tell {name} first a", f"caught {name} cheap a", f"finds {name} long c", f"two {name}",
                         f"against {name} first shy", f"apart {name} first shy", f"grows {name}")
            desk.say(f"many {name} a")
        self.refused(desk, TooMany, "grows f", "apart t first shy", "grows t")
        self.assertEqual(desk.say("against t first shy"), "alike")

    def test_the_one_told_first(self):
        desk = desk_with(x=OVERFULL)
        self.refused(desk, NoRow, "tell X best " + SIXTY + "a", "tell y best a\n", "keep X (", "against Y best cheap", "many Y a")
        self.refused(desk, NoTaste, "tell y best a", "against y cheap first", "apart x best shy", "tell x best a")
        self.refused(desk, NoName, "tell y first a", "grows y")
        self.refused(desk, TooMany, "tell x first a", "grows x")


class Own(unittest.TestCase):
    def test_the_same_question_has_the_same_answer(self):
        desk = desk_with(x=again(pick(price(1, A), row(A, AB))))
        for said in ("tell x cheap aab", "caught x long a", "many x aaa", "finds x short aa", "two x", "against x first long",
                     "apart x long short", "grows x", "names", "show x"):
            self.assertEqual(desk.say(said), desk.say(said))


if __name__ == "__main__":
    unittest.main()
