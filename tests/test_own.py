"""[2] what is handed in is neither changed nor kept, and what is told is the asker's own."""

import copy
import unittest

from morethanhalf.answers import can_be, groups_of, tells
from morethanhalf.desk import Desk
from morethanhalf.holding import holding_paper, holds
from morethanhalf.kept import Keeper
from morethanhalf.kinds import all_sorts, more_than_half, most_are, sorts_of
from morethanhalf.most import fewest_most, one_by_one, tells_most
from morethanhalf.rows import in_a_row, in_rows
from morethanhalf.tellers import in_a_chain, liars_that_fit, surely_true
from morethanhalf.texts import read_tree, show_tree
from morethanhalf.trees import depth, fewest, fewest_of_two, finds_out

ANSWERS = [(0, 1, True), (2, 1, False), (4, 3, True), (2, 3, False)]


def most_kept(names):
    """What a keeper tells of these names, which are all alike."""
    keeper = Keeper()
    for name in names:
        keeper.come(name)
        while keeper.wants() is not None:
            keeper.hear(True)
    return keeper.most()


CALLS = [
    (more_than_half, ([4, 1, 4],)),
    (more_than_half, ([4, 1],)),
    (more_than_half, ([],)),
    (most_are, ([4, 1, 1, 4, 2],)),
    (most_are, ([],)),
    (sorts_of, ([0, 1, 0, 2],)),
    (sorts_of, ([],)),
    (all_sorts, (0, 0)),
    (all_sorts, (4, 0)),
    (all_sorts, (4, 2)),
    (all_sorts, (7, 7)),
    (can_be, (5, ANSWERS)),
    (tells, (5, ANSWERS)),
    (groups_of, (5, ANSWERS)),
    (groups_of, (3, [])),
    (groups_of, (0, [])),
    (in_a_row, ([4, 1, 4, 2, 4],)),
    (in_a_row, ([4, 1, 4, 1],)),
    (in_a_row, ([4],)),
    (in_a_row, ([],)),
    (in_rows, ([4, 4, 1, 2, 4],)),
    (in_rows, ([4, 1, 4, 1],)),
    (in_rows, ([4],)),
    (in_rows, ([],)),
    (finds_out, (2, ("ask", 0, 1, ("one", 0), ("none",)))),
    (depth, (("ask", 0, 1, ("one", 0), ("none",)),)),
    (fewest, (4,)),
    (fewest_of_two, (6,)),
    (holds, (3, 2, holding_paper(3))),
    (holds, (3, 2, [(True, []), (False, [[], []]), []])),
    (holding_paper, (2,)),
    (holding_paper, (3,)),
    (holding_paper, (4,)),
    (one_by_one, ([4, 1, 1, 4, 2],)),
    (one_by_one, ([4],)),
    (one_by_one, ([],)),
    (tells_most, (5, ANSWERS)),
    (tells_most, (0, [])),
    (fewest_most, (4,)),
    (liars_that_fit, (1, [])),
    (liars_that_fit, (10, [])),
    (liars_that_fit, (5, ANSWERS)),
    (liars_that_fit, (2, [(0, 1, False)])),
    (surely_true, (3, [])),
    (surely_true, (3, [(0, 1, True)])),
    (surely_true, (5, ANSWERS)),
    (in_a_chain, ([True],)),
    (in_a_chain, ([False, True, True, False, True],)),
    (most_kept, ([],)),
    (most_kept, ([4, 2, 3],)),
    (show_tree, (("ask", 0, 1, ("one", 0), ("none",)),)),
    (read_tree, ("0?1(i0:none)",)),
]


def lists_in(value):
    if isinstance(value, (list, tuple)):
        inner = [found for item in value for found in lists_in(item)]
        return inner + ([value] if isinstance(value, list) else [])
    return []


class TheAskersOwn(unittest.TestCase):
    def test_what_is_handed_in_stays_as_it_was(self):
        for call, arguments in CALLS:
            before = copy.deepcopy(arguments)
            call(*arguments)
            self.assertEqual(arguments, before, call.__name__)

    def test_what_is_told_is_told_again_once_changed(self):
        for call, arguments in CALLS:
            told = call(*arguments)
            due = copy.deepcopy(told)
            for each in lists_in(told):
                each.append("changed")
            self.assertEqual(call(*arguments), due, call.__name__)

    def test_no_two_lists_are_one(self):
        for call, arguments in CALLS:
            lists = lists_in(arguments) + lists_in(call(*arguments)) + lists_in(call(*arguments))
            self.assertEqual(len({id(each) for each in lists}), len(lists), call.__name__)

    def test_a_list_handed_in_and_changed_later_changes_nothing_told(self):
        for call, arguments in CALLS:
            handed = copy.deepcopy(arguments)
            told = call(*handed)
            due = copy.deepcopy(told)
            for each in lists_in(handed):
                each.clear()
            self.assertEqual(told, due, call.__name__)
            self.assertEqual(call(*arguments), due, call.__name__)

    def test_what_is_told_may_be_handed_in(self):
        for sort in all_sorts(5, 5):
            self.assertEqual(sorts_of(sort), sort)
            self.assertEqual(most_are(sorts_of(sort)), most_are(sort))

    def test_asks_that_are_told_may_be_handed_in(self):
        for asked in (in_a_row, in_rows, one_by_one):
            for kinds in all_sorts(5, 5) + [[0, 1, 1, 2] * 15]:
                asks, found = asked(kinds)
                self.assertIs(can_be(len(kinds), asks), True)
                groups_of(len(kinds), asks)
        for kinds in all_sorts(5, 5):
            asks, things = one_by_one(kinds)
            self.assertEqual(tells_most(5, asks), ("one", things[0]))
            self.assertEqual(groups_of(5, asks)[0], groups_of(5, asks[::-1])[0])

    def test_trees_and_papers_that_are_told_may_be_handed_in(self):
        for many in range(1, 6):
            number, tree = fewest(many)
            self.assertEqual((finds_out(many, tree), depth(tree)), (True, number))
        for many in range(1, 8):
            number, tree = fewest_of_two(many)
            self.assertEqual(depth(tree), number)
            self.assertIs(finds_out(many, tree), many < 3)
        for many in (2, 3, 4):
            self.assertIs(holds(many, fewest(many)[0] - 1, holding_paper(many)), True)

    def test_sayings_and_truths_that_are_told_may_be_handed_in(self):
        for truths in ([True], [True, False, True], [False, True, True, False, True], [True] * 10):
            sayings, known = in_a_chain(truths)
            liars = [teller for teller, true in enumerate(truths) if not true]
            self.assertEqual(liars_that_fit(len(truths), sayings), [liars])
            self.assertEqual(surely_true(len(truths), sayings + sayings[:5]), [
                teller for teller, true in enumerate(truths) if true
            ])
            self.assertEqual(in_a_chain(known), (sayings, known))

    def test_texts_and_names_that_are_told_may_be_handed_in(self):
        for many in range(1, 6):
            number, tree = fewest(many)
            self.assertIs(finds_out(many, read_tree(show_tree(tree))), True)
            desk = Desk()
            desk.say(f"things {many}")
            self.assertEqual(desk.say("tree " + show_tree(tree)), "finds " + desk.say("fewest"))
        names = most_kept([4, 2, 3])
        self.assertEqual(most_kept(names), names)
        self.assertEqual(more_than_half(names), [])

    def test_what_is_told_is_not_changed_by_what_is_done_later(self):
        keeper = Keeper()
        told = []
        for name, alike in ((5, None), (6, True), (7, True), (8, False)):
            keeper.come(name)
            if alike is not None:
                wanted = keeper.wants()
                keeper.hear(alike)
                self.assertEqual(wanted, (5, name))
            told.append((keeper.most(), list(keeper.most())))
        for name in (5, 7, 8, 6):
            keeper.go(name)
            told.append((keeper.most(), list(keeper.most())))
        for kept, due in told:
            self.assertEqual(kept, due)
        due = [[5], [5, 6], [5, 6, 7], [5, 6, 7], [6, 7], [], [6], []]
        self.assertEqual([kept for kept, same in told], due)


class TheKindsOfValues(unittest.TestCase):
    def kinds_in(self, value):
        if isinstance(value, (list, tuple)):
            return {type(value)}.union(*[self.kinds_in(item) for item in value])
        return {type(value)}

    def test_lists_of_whole_numbers(self):
        for value in (more_than_half([1, 1]), sorts_of([3, 4]), most_are([1, 2]), all_sorts(3, 2)):
            self.assertEqual(self.kinds_in(value), {list, int})

    def test_lists_of_nothing(self):
        for value in (more_than_half([]), more_than_half([1, 2]), sorts_of([]), most_are([]), all_sorts(2, 0)):
            self.assertEqual((type(value), value), (list, []))

    def test_tuples_of_what_answers_tell(self):
        for many, due in ((0, {tuple, str}), (1, {tuple, str, int}), (2, {tuple, str})):
            self.assertEqual(self.kinds_in(tells(many, [])), due)

    def test_asks_and_what_is_found(self):
        for asked in (in_a_row, in_rows):
            for kinds in ([], [3], [3, 4], [3, 3, 4], [3, 4, 5]):
                told = asked(kinds)
                self.assertEqual([type(told), type(told[0]), type(told[1])], [tuple, list, tuple])
                for answer in told[0]:
                    self.assertEqual([type(answer)] + [type(each) for each in answer], [tuple, int, int, bool])
                self.assertEqual(type(told[1][-1]), str if told[1][0] == "none" else int)

    def test_tuples_of_what_answers_tell_of_the_most(self):
        for many, due in ((0, {tuple, str}), (1, {tuple, str, int}), (3, {tuple, str})):
            self.assertEqual(self.kinds_in(tells_most(many, [])), due)

    def test_numbers(self):
        for number in (depth(("none",)), fewest_most(1), fewest_most(4), fewest(1)[0], fewest_of_two(7)[0]):
            self.assertIs(type(number), int)

    def test_truths(self):
        self.assertIs(finds_out(0, ("none",)), True)
        self.assertIs(finds_out(1, ("none",)), False)
        self.assertIs(holds(2, 0, ()), True)
        self.assertIs(holds(2, 0, []), False)
        self.assertIs(can_be(2, [(0, 1, True)]), True)
        self.assertIs(can_be(2, [(0, 1, False)]), True)
        self.assertIs(can_be(2, [(0, 1, True), (0, 1, False)]), False)


if __name__ == "__main__":
    unittest.main()
