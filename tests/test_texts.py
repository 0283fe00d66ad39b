"""[21] trees of asks as texts, written and read."""

import itertools
import re
import unittest

from plain import every_sort, numbers_from, tree_by

from morethanhalf.errors import NoText
from morethanhalf.rows import in_a_row, in_rows
from morethanhalf.texts import read_tree, show_tree
from morethanhalf.trees import depth, fewest, fewest_of_two

BIG = 10 ** 30 - 1
NONE = ("none",)

NUMBER = "(?:0|[1-9][0-9]*)"
END = re.compile(rf"(?<![^(:])(?:none|i{NUMBER})(?![^:)])")
ASK = re.compile(rf"(?<![^(:]){NUMBER}\?{NUMBER}\(T:T\)(?![^:)])")

WRITTEN = [
    (NONE, "none"),
    (("one", 0), "i0"),
    (("one", 7), "i7"),
    (("one", 10), "i10"),
    (("one", BIG), "i" + "9" * 30),
    (("ask", 0, 1, ("one", 0), NONE), "0?1(i0:none)"),
    (("ask", 12, 305, NONE, ("one", 20)), "12?305(none:i20)"),
    (("ask", 3, 3, NONE, NONE), "3?3(none:none)"),
    (("ask", 0, 1, ("ask", 2, 3, ("one", 2), NONE), ("one", 1)), "0?1(2?3(i2:none):i1)"),
    (("ask", 0, 1, ("one", 1), ("ask", 2, 3, ("one", 2), NONE)), "0?1(i1:2?3(i2:none))"),
    (
        ("ask", 0, 1, ("ask", 2, 3, NONE, ("one", 2)), ("ask", 4, 5, ("one", 4), NONE)),
        "0?1(2?3(none:i2):4?5(i4:none))",
    ),
    (("ask", BIG, BIG - 1, ("one", BIG), ("one", 10 ** 29)), f"{BIG}?{BIG - 1}(i{BIG}:i1{'0' * 29})"),
]

NO_TREES = [
    "", "i", "n", "no", "non", "nonee", "None", "NONE", "I0", "one 0", "i-1", "i+1", "i1_0", "i1.0", "i 0",
    "i00", "i01", "i007", "0", "12", "?", "(", ":", ")", "()", "(i0)", "(none)", "i0i0", "nonenone", "i0:none", "i0)",
    "none)", "none:", "0?1", "0?1()", "0?1(:)", "0?1(i0)", "0?1(i0:)", "0?1(:i0)", "0?1(i0,none)", "0?1(i0:none",
    "0?1i0:none)", "0?1(i0:none))", "0?1(i0:none)i0", "0?1(i0:none)0?1(i0:none)", "0?1(i0:none:none)", "?1(i0:none)",
    "0?(i0:none)", "0 1(i0:none)", "01(i0:none)", "0??1(i0:none)", "0?1?2(i0:none)", "0?1((i0:none))", "0?1(i0::none)",
    "00?1(i0:none)", "0?01(i0:none)", "0?00(i0:none)", "-1?0(i0:none)", "0?-1(i0:none)", "+0?1(i0:none)",
    "i0?1(i0:none)", "none?1(i0:none)", "0?i1(i0:none)", "0?1(i0:none)\n", "\ni0", "i0\n", "i0\t", "i0\0", "\0i0",
    "0?1(i0: none)", "0?1(i0 :none)", "0?1 (i0:none)", "0 ?1(i0:none)", "0? 1(i0:none)", "0?1( i0:none)", "0?1(0:1)",
    "open", "one", "ask", "T", "0?1(T:T)", "(" * 3000, "0?1(" * 750, "0?1(i0:" * 400, "i0)" * 1000, ")" * 3000,
]

# Signs that Python takes for figures or letters, but that are none here.
OTHER_SIGNS = ["\u0660", "\u0661", "\u0967", "\u00b2", "\u00b9", "\uff11", "\u2460", "\u00bd", "\U0001d7d9", "\u0131",
               "\u00a0", "\u3000", "\u2028", "\ufeff", "\u00e9", "\u0441", "\x7f", "\x00", "\x1f", "\ud800", "\U0001f600"]


def is_tree_text(text):
    """Whether the text is a tree's, by making its ends and asks to a T till it is one or nothing is left to make."""
    if set(text) - set("0123456789i?(:)none"):
        return False
    rest = END.sub("T", text)
    while ASK.search(rest):
        rest = ASK.sub("T", rest)
    return rest == "T"


def plain_show(tree):
    if tree[0] == "ask":
        return f"{tree[1]}?{tree[2]}({plain_show(tree[3])}:{plain_show(tree[4])})"
    return "none" if tree == NONE else f"i{tree[1]}"


def mixed_tree(asks, mixed):
    """A tree of so many asks in all, mixed."""
    if asks == 0:
        return NONE if next(mixed) % 3 == 0 else ("one", next(mixed) % 15)
    alike = next(mixed) % asks
    parts = (mixed_tree(alike, mixed), mixed_tree(asks - 1 - alike, mixed))
    return ("ask", next(mixed) % 12, next(mixed) % 12) + parts


def long_way(asks, side):
    """A way of so many asks, one within another, on one side or by turns."""
    tree = ("one", 3)
    for step in range(asks):
        on_the_left = side == "alike" or (side == "turns" and step % 2)
        tree = ("ask", step, 0, tree, NONE) if on_the_left else ("ask", 0, step, NONE, tree)
    return tree


class Written(unittest.TestCase):
    def test_each_form(self):
        for tree, text in WRITTEN:
            self.assertEqual(show_tree(tree), text)
            self.assertIs(type(show_tree(tree)), str)

    def test_mixed_trees(self):
        mixed = numbers_from(5)
        for asks in list(range(12)) * 4 + [60, 110]:
            tree = mixed_tree(asks, mixed)
            self.assertEqual(show_tree(tree), plain_show(tree))

    def test_two_hundred_asks_one_within_another(self):
        for side in ("alike", "unlike", "turns"):
            tree = long_way(200, side)
            self.assertEqual(show_tree(tree), plain_show(tree))
        self.assertEqual(show_tree(long_way(2, "alike")), "1?0(0?0(i3:none):none)")


class Read(unittest.TestCase):
    def check_tuples(self, tree):
        self.assertIs(type(tree), tuple)
        if tree[0] == "ask":
            self.assertEqual([type(each) for each in tree], [str, int, int, tuple, tuple])
            self.check_tuples(tree[3])
            self.check_tuples(tree[4])
        else:
            self.assertIn([type(each) for each in tree], ([str], [str, int]))

    def test_each_form(self):
        for tree, text in WRITTEN:
            self.assertEqual(read_tree(text), tree)
            self.check_tuples(read_tree(text))

    def test_to_the_same(self):
        mixed = numbers_from(6)
        trees = [mixed_tree(asks, mixed) for asks in list(range(12)) * 4 + [60, 110]]
        trees += [fewest(many)[1] for many in range(1, 6)] + [fewest_of_two(many)[1] for many in range(1, 8)]
        trees += [tree_by(asked, every_sort(many, many)) for asked in (in_a_row, in_rows) for many in range(6)]
        for tree in trees:
            text = show_tree(tree)
            self.assertEqual(read_tree(text), tree)
            self.assertEqual(show_tree(read_tree(text)), text)
            self.check_tuples(read_tree(text))

    def test_two_hundred_asks_one_within_another(self):
        for side in ("alike", "unlike", "turns"):
            tree = long_way(200, side)
            self.assertEqual(read_tree(show_tree(tree)), tree)
            self.check_tuples(read_tree(show_tree(tree)))
            self.assertEqual(depth(read_tree(show_tree(tree))), 200)

    def test_three_thousand_signs(self):
        text = "0?1(i0:" * 374 + "none" + ")" * 374
        tree = read_tree(text)
        self.assertEqual((len(text), depth(tree), show_tree(tree)), (2996, 374, text))
        self.assertEqual(read_tree("i1" + "0" * 2998), ("one", 10 ** 2998))

    def test_things_of_thirty_figures(self):
        figures = "123456789012345678901234567890"
        self.assertEqual(read_tree("i" + figures), ("one", int(figures)))
        tree = read_tree(f"{figures}?{figures[::-1].lstrip('0')}(none:i{figures})")
        self.assertEqual(tree, ("ask", int(figures), int(figures[::-1]), NONE, ("one", int(figures))))


class NoTrees(unittest.TestCase):
    def check_refused(self, text):
        with self.subTest(text=text[:60]), self.assertRaises(NoText):
            read_tree(text)

    def check_as_the_words_are(self, text):
        if is_tree_text(text):
            self.assertEqual(show_tree(read_tree(text)), text)
        else:
            self.check_refused(text)

    def test_texts_that_are_no_tree(self):
        for text in NO_TREES:
            self.assertFalse(is_tree_text(text), text)
            self.check_refused(text)

    def test_a_blank_ahead_or_behind(self):
        for tree, text in WRITTEN:
            for blanks in (" ", "  ", "\n", "\t", "\r", "\u00a0"):
                self.check_refused(blanks + text)
                self.check_refused(text + blanks)

    def test_a_blank_anywhere(self):
        text = "10?2(none:3?4(i5:none))"
        for at in range(len(text) + 1):
            self.check_refused(text[:at] + " " + text[at:])

    def test_a_0_ahead(self):
        for text in ("i{}", "{}?1(i0:none)", "0?{}(i0:none)", "0?1(i{}:none)", "0?1(none:i{})", "0?1(none:{}?2(i0:i0))"):
            read_tree(text.format("5"))
            for number in ("00", "01", "05", "0123", "000"):
                self.check_refused(text.format(number))

    def test_signs_other_than_from_the_blank_on(self):
        text = "10?2(none:3?4(i5:none))"
        for sign in OTHER_SIGNS:
            self.check_refused(sign)
            self.check_refused("i" + sign)
            for at in range(len(text)):
                self.check_refused(text[:at] + sign + text[at:])
                self.check_refused(text[:at] + sign + text[at + 1:])
            self.check_refused(text + sign)

    def test_cut_off_at_each_place(self):
        for tree, text in WRITTEN:
            for at in range(len(text)):
                self.check_as_the_words_are(text[:at])
                self.check_as_the_words_are(text[at:])
        for text in ("0?1(i0:none)", "0?1(2?3(i2:none):4?5(none:i1))"):
            for at in range(len(text)):
                self.check_refused(text[:at])

    def test_something_behind(self):
        for tree, text in WRITTEN:
            for behind in ("none", "i0", ")", ":", "(", "?", ":none)", "(none:none)", "?1(none:none)", "n", " none"):
                self.check_refused(text + behind)

    def test_a_sign_more_less_or_other(self):
        text = "10?2(none:3?40(i5:none))"
        for at, sign in itertools.product(range(len(text)), [chr(code) for code in range(ord(" "), ord("~") + 1)]):
            self.check_as_the_words_are(text[:at] + sign + text[at:])
            self.check_as_the_words_are(text[:at] + sign + text[at + 1:])
            self.check_as_the_words_are(text[:at] + text[at + 1:])

    def test_all_short_texts(self):
        for many in range(6):
            for signs in itertools.product("i01?(:)n", repeat=many):
                text = "".join(signs).replace("n", "none")
                if is_tree_text(text):
                    self.assertEqual(show_tree(read_tree(text)), text)
                else:
                    with self.assertRaises(NoText):
                        read_tree(text)


if __name__ == "__main__":
    unittest.main()
