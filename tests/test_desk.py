"""[22] a desk that is told rows."""

import unittest

from plain import every_sort, fit, half_things, mixed_kinds, pairs_of, tree_by

from morethanhalf.desk import Desk
from morethanhalf.errors import NoFit, NoForm, NoneYet, NoText, NoThing
from morethanhalf.rows import in_a_row, in_rows
from morethanhalf.texts import show_tree
from morethanhalf.trees import fewest

TWO = "0?1(i0:none)"
THREE = "0?1(i1:1?2(i2:2?0(i0:none)))"

NO_TREES = ["", " ", " " + TWO, TWO + " ", "none none", "None", "i", "i00", "0?1(i0:none", "0?01(i0:none)", "things 3",
            "tree", "\n", "none\n", "i\u0661", "\u00e9", "\x00", "(" * 2900, "0?1(" * 700]

NO_ROWS = [
    "", " ", "\n", "things", "things ", "things  3", " things 3", "things 3 ", "things\t3", "things 3\n", "things3",
    "Things 3", "THINGS 3", "thing 3", "things 03", "things 00", "things +3", "things -3", "things -1", "things 3.0",
    "things three", "things 3 4", "things \u0663", "things \uff13", "things 1_0", "things \u00b3", "things 3\x00",
    "0 1", "0 1 ", "0 like", "like", "unlike", "0 1 Like", "0 1 LIKE", "0 1 alike", "0 1 unlik", "0 1 like ", " 0 1 like",
    "0  1 like", "0 1  like", "0 1 like like", "0 1 2 like", "0\t1 like", "0 1\tlike", "0 1 like\n", "\n0 1 like",
    "00 1 like", "0 01 like", "00 00 unlike", "-1 0 like", "0 -1 like", "+0 1 like", "0 +1 unlike", "0 1.0 like",
    "a b like", "0 b like", "\u0660 1 like", "0 \u0661 unlike", "0 \u00b9 like", "0 1 like.", "like 0 1", "0, 1 like",
    "0\u00a01 like", "groups ", " groups", "groups 0", "Groups", "GROUPS", "group", "groups\n", "fewest ", " fewest",
    "fewest 3", "Fewest", "fewest\n", "tree", "Tree " + TWO, "TREE none", " tree none", "tree\tnone", "tree\nnone",
    "treenone", "tree\u00a0none", "none", TWO, "ok", "open", "one 0", "unknown", "help", "\u00e9", "\x00",
]

NO_TEXTS = [None, True, False, 0, 3, -1, 10 ** 30, [], ["things 3"], (), ("things", 3), {}, {"things 3": 1}, b"things 3",
            b"groups", b"", {"groups"}, object(), Desk()]


def desk_of(*rows):
    desk = Desk()
    for row in rows:
        desk.say(row)
    return desk


def plain_told(many, answers):
    """What answers tell of the kind that more than half are, as the desk says it."""
    half = [half_things(kinds) for kinds in every_sort(many, many) if fit(answers, kinds)]
    sure = set.intersection(*half)
    if sure:
        return f"one {min(sure)}"
    return "open" if any(half) else "none"


def plain_groups(many, answers):
    groups = [{thing} for thing in range(many)]
    for i, j, alike in answers:
        if alike:
            both = [group for group in groups if i in group or j in group]
            groups = [group for group in groups if group not in both] + [set.union(*both)]
    return " / ".join(" ".join(str(thing) for thing in sorted(group)) for group in sorted(groups, key=min))


class DeskCase(unittest.TestCase):
    def check_refused(self, error, desk, row):
        with self.subTest(row=row if not isinstance(row, str) else row[:60]), self.assertRaises(error):
            desk.say(row)


class TheRows(DeskCase):
    def test_things(self):
        for many in range(1, 8):
            desk = Desk()
            self.assertEqual(desk.say(f"things {many}"), "ok")
            self.assertEqual(desk.say("groups"), " / ".join(str(thing) for thing in range(many)))

    def test_things_told_anew(self):
        desk = desk_of("things 3", "0 1 like")
        self.assertEqual(desk.say("groups"), "0 1 / 2")
        self.assertEqual(desk.say("things 3"), "ok")
        self.assertEqual(desk.say("groups"), "0 / 1 / 2")
        self.assertEqual(desk.say("0 1 unlike"), "open")
        self.assertEqual(desk.say("things 2"), "ok")
        self.assertEqual(desk.say("1 0 like"), "one 0")
        self.assertEqual(desk.say("things 7"), "ok")
        self.assertEqual(desk.say("5 6 unlike"), "open")

    def test_answers(self):
        desk = desk_of("things 3")
        self.assertEqual(desk.say("0 1 unlike"), "open")
        self.assertEqual(desk.say("2 1 like"), "one 1")
        self.assertEqual(desk.say("2 1 like"), "one 1")
        desk = desk_of("things 4")
        self.assertEqual([desk.say(f"0 {j} unlike") for j in (1, 2, 3)], ["open", "open", "open"])
        self.assertEqual(desk.say("1 2 unlike"), "none")
        self.assertEqual(desk.say("2 3 like"), "none")
        self.assertEqual(desk_of("things 2").say("0 1 unlike"), "none")
        self.assertEqual(desk_of("things 7").say("0 6 like"), "open")

    def test_groups(self):
        desk = desk_of("things 7", "6 0 like", "3 2 like", "0 3 unlike", "5 3 like")
        self.assertEqual(desk.say("groups"), "0 6 / 1 / 2 3 5 / 4")
        desk.say("1 4 like")
        self.assertEqual(desk.say("groups"), "0 6 / 1 4 / 2 3 5")
        self.assertEqual(desk_of("things 1").say("groups"), "0")
        self.assertEqual(desk_of("things 2", "0 1 like").say("groups"), "0 1")

    def test_fewest(self):
        told = [desk_of(f"things {many}").say("fewest") for many in range(1, 8)]
        self.assertEqual(told, ["0", "1", "3", "4", "6", "unknown", "unknown"])

    def test_fewest_from_the_beginning(self):
        desk = desk_of("things 4", "0 1 like", "1 2 like")
        self.assertEqual(desk.say("fewest"), "4")
        self.assertEqual(desk.say("groups"), "0 1 2 / 3")

    def test_trees_that_find_out(self):
        self.assertEqual(desk_of("things 1").say("tree i0"), "finds 0")
        self.assertEqual(desk_of("things 2").say("tree " + TWO), "finds 1")
        self.assertEqual(desk_of("things 3").say("tree " + THREE), "finds 3")
        for many in range(1, 6):
            number, tree = fewest(many)
            self.assertEqual(desk_of(f"things {many}").say("tree " + show_tree(tree)), f"finds {number}")

    def test_trees_of_ways_of_asking(self):
        for many in range(1, 8):
            sorts = every_sort(many, many)
            for asked in (in_a_row, in_rows):
                text = show_tree(tree_by(asked, sorts))
                depth = max(len(asked(kinds)[0]) for kinds in sorts)
                self.assertEqual(desk_of(f"things {many}").say("tree " + text), f"finds {depth}")

    def test_trees_that_fail(self):
        for many in range(1, 8):
            desk = desk_of(f"things {many}")
            for text in ("none", f"i{many}", "i" + "9" * 30, "0?0(i0:i0)", f"0?{many}(i0:i0)", "1?0(none:i0)"):
                self.assertEqual(desk.say("tree " + text), "fails")
            for text, right in (("i0", 1), (TWO, 2), (THREE, 3)):
                if many != right:
                    self.assertEqual(desk.say("tree " + text), "fails")

    def test_trees_from_the_beginning(self):
        desk = desk_of("things 2", "0 1 like")
        self.assertEqual(desk.say("tree i0"), "fails")
        self.assertEqual(desk.say("tree " + TWO), "finds 1")
        self.assertEqual(desk.say("1 0 like"), "one 0")

    def test_a_tree_of_a_hundred_and_twenty_asks_on_a_way(self):
        desk = desk_of("things 2")
        text = "0?1(" * 120 + "i0" + ":none)" * 120
        self.assertEqual(desk.say("tree " + text), "finds 120")
        self.assertEqual(desk.say("tree " + text.replace("i0", "i2")), "fails")

    def test_things_of_thirty_figures_in_a_tree(self):
        self.assertEqual(desk_of("things 3").say(f"tree {'1' * 30}?{'2' * 30}(none:i{'3' * 30})"), "fails")

    def test_each_answer_is_a_text(self):
        desk = Desk()
        for row in ("things 2", "0 1 like", "groups", "fewest", "tree none", "tree " + TWO, "things 7", "fewest"):
            self.assertIs(type(desk.say(row)), str)


class AsTheWordsAre(DeskCase):
    def test_mixed_answers(self):
        for many in range(2, 8):
            for seed in range(8):
                kinds = mixed_kinds(many, 1 + seed % 4, seed)
                pairs = pairs_of(many)
                desk, answers = desk_of(f"things {many}"), []
                for at in mixed_kinds(9, 2 * len(pairs), seed + 50):
                    i, j = pairs[at // 2] if at % 2 else pairs[at // 2][::-1]
                    answers.append((i, j, kinds[i] == kinds[j]))
                    row = f"{i} {j} {'like' if answers[-1][2] else 'unlike'}"
                    self.assertEqual(desk.say(row), plain_told(many, answers), answers)
                    self.assertEqual(desk.say("groups"), plain_groups(many, answers), answers)

    def test_three_hundred_answers(self):
        desk = desk_of("things 7")
        for at in range(300):
            told = desk.say(f"{at % 3} {at % 3 + 1} like")
        self.assertEqual(told, "one 0")
        self.check_refused(NoFit, desk, "0 3 unlike")
        self.assertEqual(desk.say("groups"), "0 1 2 3 / 4 / 5 / 6")


class Refused(DeskCase):
    def test_rows_before_things_are_told(self):
        desk = Desk()
        for row in ("0 1 like", "0 1 unlike", "0 0 like", "9 9 like", "groups", "fewest", "tree i0", "tree none"):
            self.check_refused(NoneYet, desk, row)
        for text in NO_TREES:
            self.check_refused(NoneYet, desk, "tree " + text)
        self.assertEqual(desk.say("things 3"), "ok")
        self.assertEqual(desk.say("groups"), "0 / 1 / 2")

    def test_numbers_of_things_out_of_1_to_7(self):
        for row in ("things 0", "things 8", "things 9", "things 10", "things 17", "things " + "9" * 30):
            desk = Desk()
            self.check_refused(NoForm, desk, row)
            self.check_refused(NoneYet, desk, "groups")
            desk = desk_of("things 3", "0 1 like")
            self.check_refused(NoForm, desk, row)
            self.assertEqual(desk.say("groups"), "0 1 / 2")

    def test_things_of_an_answer_that_are_none(self):
        for many in (1, 2, 3, 7):
            desk = desk_of(f"things {many}")
            before = desk.say("groups")
            for none in (many, many + 1, 10, 10 ** 30 - 1):
                for word in ("like", "unlike"):
                    self.check_refused(NoThing, desk, f"0 {none} {word}")
                    self.check_refused(NoThing, desk, f"{none} 0 {word}")
                    self.check_refused(NoThing, desk, f"{none} {none} {word}")
            self.assertEqual(desk.say("groups"), before)

    def test_one_thing_twice(self):
        desk = desk_of("things 3", "0 1 like")
        for thing in (0, 1, 2):
            for word in ("like", "unlike"):
                self.check_refused(NoThing, desk, f"{thing} {thing} {word}")
        self.assertEqual(desk.say("groups"), "0 1 / 2")

    def test_an_answer_that_cannot_be_right_is_left_out(self):
        desk = desk_of("things 4", "0 1 like", "1 2 unlike")
        for row in ("0 2 like", "1 0 unlike", "2 1 like", "0 1 unlike"):
            self.check_refused(NoFit, desk, row)
            self.assertEqual(desk.say("groups"), "0 1 / 2 / 3")
        self.assertEqual(desk.say("3 1 like"), "one 0")
        self.check_refused(NoFit, desk, "3 2 like")
        self.assertEqual(desk.say("2 3 unlike"), "one 0")
        self.assertEqual(desk.say("groups"), "0 1 3 / 2")
        desk.say("things 4")
        self.assertEqual(desk.say("0 2 like"), "open")

    def test_trees_of_no_tree(self):
        desk = desk_of("things 2", "0 1 like")
        for text in NO_TREES:
            self.check_refused(NoText, desk, "tree " + text)
        self.assertEqual(desk.say("groups"), "0 1")

    def test_rows_of_no_form(self):
        for row in NO_ROWS:
            desk = desk_of("things 3", "0 1 like")
            self.check_refused(NoForm, desk, row)
            self.assertEqual(desk.say("groups"), "0 1 / 2")
            self.check_refused(NoFit, desk, "0 1 unlike")

    def test_no_form_ahead_of_none_yet(self):
        desk = Desk()
        for row in NO_ROWS:
            self.check_refused(NoForm, desk, row)
        self.check_refused(NoneYet, desk, "groups")

    def test_what_is_no_text(self):
        for desk in (Desk(), desk_of("things 3")):
            for row in NO_TEXTS:
                self.check_refused(NoForm, desk, row)

    def test_no_form_ahead_of_no_thing(self):
        desk = desk_of("things 3")
        for row in ("3 03 like", "9 9 alike", "9  9 like", "3 3 like ", "-1 -1 like"):
            self.check_refused(NoForm, desk, row)

    def test_no_thing_ahead_of_no_fit(self):
        desk = desk_of("things 3", "0 1 like")
        self.check_refused(NoThing, desk, "1 1 unlike")
        self.check_refused(NoThing, desk, "3 3 unlike")


class TwoDesks(DeskCase):
    def test_beside_one_another(self):
        one, other = Desk(), Desk()
        one.say("things 3")
        self.check_refused(NoneYet, other, "groups")
        other.say("things 4")
        one.say("0 1 like")
        self.assertEqual(other.say("groups"), "0 / 1 / 2 / 3")
        self.assertEqual(other.say("0 1 unlike"), "open")
        self.assertEqual(one.say("groups"), "0 1 / 2")
        other.say("things 1")
        self.assertEqual((one.say("fewest"), other.say("fewest")), ("3", "0"))


if __name__ == "__main__":
    unittest.main()
