"""[2] what is handed in is neither changed nor kept, and what is told is the asker's own."""

import copy
import unittest

from morethanhalf.answers import can_be, groups_of, tells
from morethanhalf.kinds import all_sorts, more_than_half, most_are, sorts_of

ANSWERS = [(0, 1, True), (2, 1, False), (4, 3, True), (2, 3, False)]

CALLS = [
    (more_than_half, ([4, 1, 4],)),
    (more_than_half, ([4, 1],)),
    (more_than_half, ([],)),
    (most_are, ([4, 1, 1, 4, 2],)),
    (most_are, ([],)),
    (sorts_of, ([0, 1, 0, 2],)),
    (sorts_of, ([],)),
    (all_sorts, (0, 0)),
    (all_sorts, (4, 0)),
    (all_sorts, (4, 2)),
    (all_sorts, (7, 7)),
    (can_be, (5, ANSWERS)),
    (tells, (5, ANSWERS)),
    (groups_of, (5, ANSWERS)),
    (groups_of, (3, [])),
    (groups_of, (0, [])),
]


def lists_in(value):
    if isinstance(value, (list, tuple)):
        inner = [found for item in value for found in lists_in(item)]
        return inner + ([value] if isinstance(value, list) else [])
    return []


class TheAskersOwn(unittest.TestCase):
    def test_what_is_handed_in_stays_as_it_was(self):
        for call, arguments in CALLS:
            before = copy.deepcopy(arguments)
            call(*arguments)
            self.assertEqual(arguments, before, call.__name__)

    def test_what_is_told_is_told_again_once_changed(self):
        for call, arguments in CALLS:
            told = call(*arguments)
            due = copy.deepcopy(told)
            for each in lists_in(told):
                each.append("changed")
            self.assertEqual(call(*arguments), due, call.__name__)

    def test_no_two_lists_are_one(self):
        for call, arguments in CALLS:
            lists = lists_in(arguments) + lists_in(call(*arguments)) + lists_in(call(*arguments))
            self.assertEqual(len({id(each) for each in lists}), len(lists), call.__name__)

    def test_a_list_handed_in_and_changed_later_changes_nothing_told(self):
        for call, arguments in CALLS:
            handed = copy.deepcopy(arguments)
            told = call(*handed)
            due = copy.deepcopy(told)
            for each in lists_in(handed):
                each.clear()
            self.assertEqual(told, due, call.__name__)
            self.assertEqual(call(*arguments), due, call.__name__)

    def test_what_is_told_may_be_handed_in(self):
        for sort in all_sorts(5, 5):
            self.assertEqual(sorts_of(sort), sort)
            self.assertEqual(most_are(sorts_of(sort)), most_are(sort))


class TheKindsOfValues(unittest.TestCase):
    def kinds_in(self, value):
        if isinstance(value, (list, tuple)):
            return {type(value)}.union(*[self.kinds_in(item) for item in value])
        return {type(value)}

    def test_lists_of_whole_numbers(self):
        for value in (more_than_half([1, 1]), sorts_of([3, 4]), most_are([1, 2]), all_sorts(3, 2)):
            self.assertEqual(self.kinds_in(value), {list, int})

    def test_lists_of_nothing(self):
        for value in (more_than_half([]), more_than_half([1, 2]), sorts_of([]), most_are([]), all_sorts(2, 0)):
            self.assertEqual((type(value), value), (list, []))

    def test_tuples_of_what_answers_tell(self):
        for many, due in ((0, {tuple, str}), (1, {tuple, str, int}), (2, {tuple, str})):
            self.assertEqual(self.kinds_in(tells(many, [])), due)

    def test_truths(self):
        self.assertIs(can_be(2, [(0, 1, True)]), True)
        self.assertIs(can_be(2, [(0, 1, False)]), True)
        self.assertIs(can_be(2, [(0, 1, True), (0, 1, False)]), False)


if __name__ == "__main__":
    unittest.main()
