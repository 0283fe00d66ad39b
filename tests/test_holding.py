"""[14] holding papers: whether one is let by, and one that is let by, and [4] of them."""

import copy
import itertools
import unittest

from plain import is_open, pairs_of, ways_down

from morethanhalf.errors import NoThing, TooMany
from morethanhalf.holding import holding_paper, holds
from morethanhalf.trees import fewest

BIG = 10 ** 30 - 1


def plain_holds(many, paper):
    """Whether a paper of the right shape is let by."""
    return all(is_open(many, answers) for answers in ways_down(many, paper))


def uniform(many, asks, alike):
    """The paper that answers each ask the same."""
    return [(alike, uniform(many, asks - 1, alike)) for pair in pairs_of(many)] if asks else ()


def all_papers(many, asks):
    if asks == 0:
        return [()]
    rows = list(itertools.product((True, False), all_papers(many, asks - 1)))
    return [list(paper) for paper in itertools.product(rows, repeat=len(pairs_of(many)))]


def with_one_part_changed(paper, change):
    """All papers that are this one but for one row, which is changed; change tells new rows for a row."""
    for at, row in enumerate(paper):
        for new in change(row):
            yield paper[:at] + [new] + paper[at + 1:]
        if row[1] != ():
            for rest in with_one_part_changed(row[1], change):
                yield paper[:at] + [(row[0], rest)] + paper[at + 1:]


def other_shapes(row):
    """Rows that are none."""
    alike, rest = row
    return [
        [alike, rest], (alike,), (rest,), (), (alike, rest, rest), (rest, alike), alike, rest, None, 0, "row",
        (1 if alike else 0, rest), (None, rest), ("alike", rest), (alike, None), (alike, 0), (alike, ""), (alike, {}),
        (alike, alike), (alike, [rest]), (alike, (rest,)), (alike, [(alike, rest)]), {alike: rest},
    ]


class Holds(unittest.TestCase):
    def test_no_asks(self):
        for many in (2, 3, 4):
            self.assertIs(holds(many, 0, ()), True)

    def test_two_things(self):
        for asks in range(1, 5):
            for paper in all_papers(2, asks):
                self.assertIs(holds(2, asks, paper), False)

    def test_one_ask(self):
        for paper in all_papers(3, 1):
            due = [alike for alike, rest in paper] == [False] * 3
            self.assertIs(holds(3, 1, paper), due, paper)
        for paper in all_papers(4, 1):
            self.assertIs(holds(4, 1, paper), True, paper)

    def test_three_things_and_two_asks(self):
        let_by = 0
        for paper in all_papers(3, 2):
            due = plain_holds(3, paper)
            let_by += due
            self.assertIs(holds(3, 2, paper), due, paper)
        self.assertGreater(let_by, 0)

    def test_the_papers_that_are_told_with_one_answer_the_other_way_about(self):
        for many in (3, 4):
            asks = fewest(many)[0] - 1
            missed = 0
            for paper in with_one_part_changed(holding_paper(many), lambda row: [(not row[0], row[1])]):
                due = plain_holds(many, paper)
                missed += not due
                self.assertIs(holds(many, asks, paper), due)
            self.assertGreater(missed, len(pairs_of(many)))

    def test_two_asks_of_four_things(self):
        for answers in itertools.product((True, False), repeat=6):
            paper = [(alike, [(each, ()) for each in answers]) for alike in answers]
            self.assertIs(holds(4, 2, paper), plain_holds(4, paper), answers)

    def test_answers_that_cannot_be_right(self):
        paper = [(True, [(False, ()), (True, ()), (True, ())]) for pair in pairs_of(3)]
        self.assertIs(holds(3, 2, paper), False)
        wrong = [(alike, [(not alike, ())] * 6) for alike in (True, False) * 3]
        self.assertIs(holds(4, 2, wrong), False)

    def test_from_3_to_4_asks(self):
        for asks in (3, 4):
            for alike in (True, False):
                self.assertIs(holds(3, asks, uniform(3, asks, alike)), False)
                self.assertIs(holds(4, asks, uniform(4, asks, alike)), plain_holds(4, uniform(4, asks, alike)))

    def test_no_paper_for_as_many_asks_as_the_fewest(self):
        for many in (2, 3, 4):
            asks = fewest(many)[0]
            for alike in (True, False):
                longer = [(alike, holding_paper(many)) for pair in pairs_of(many)]
                self.assertIs(holds(many, asks, longer), False)

    def test_too_deep_and_too_flat(self):
        for many in (2, 3, 4):
            for asks in range(5):
                for other in range(5):
                    if asks != other:
                        self.assertIs(holds(many, asks, uniform(many, other, False)), False, (many, asks, other))
        for many in (3, 4):
            right = fewest(many)[0] - 1
            for asks in range(6):
                self.assertIs(holds(many, asks, holding_paper(many)), asks == right)

    def test_a_paper_for_other_things(self):
        for many, other in itertools.permutations((2, 3, 4), 2):
            for asks in range(1, 4):
                self.assertIs(holds(many, asks, uniform(other, asks, False)), False)

    def test_wrong_lengths(self):
        for many in (3, 4):
            asks, paper = fewest(many)[0] - 1, holding_paper(many)
            self.assertIs(holds(many, asks, paper[:-1]), False)
            self.assertIs(holds(many, asks, paper[1:]), False)
            self.assertIs(holds(many, asks, paper + paper[-1:]), False)
            self.assertIs(holds(many, asks, []), False)
            first = (paper[0][0], paper[0][1][:-1])
            self.assertIs(holds(many, asks, [first] + paper[1:]), False)
            last = (paper[-1][0], paper[-1][1] + paper[-1][1][:1])
            self.assertIs(holds(many, asks, paper[:-1] + [last]), False)

    def test_tuples_for_lists_and_lists_for_tuples(self):
        for many in (3, 4):
            asks, paper = fewest(many)[0] - 1, holding_paper(many)
            self.assertIs(holds(many, asks, tuple(paper)), False)
            self.assertIs(holds(many, asks, [list(row) for row in paper]), False)
            self.assertIs(holds(many, asks, paper[:-1] + [(paper[-1][0], tuple(paper[-1][1]))]), False)
            self.assertIs(holds(many, asks, paper[:-1] + [list(paper[-1])]), False)
        self.assertIs(holds(3, 1, [(False, ()), (False, ()), (False, [])]), False)

    def test_other_things_for_the_empty_paper(self):
        for paper in ([], None, 0, False, "", {}, b"", ((),), [()], (False, ())):
            for many in (2, 3, 4):
                self.assertIs(holds(many, 0, paper), False, paper)

    def test_other_things_for_a_paper(self):
        for paper in ((), None, 3, True, "abc", "abcdef", {}, {0: 1, 1: 2, 2: 3}, b"abc", [None] * 3, [()] * 6):
            for many in (2, 3, 4):
                for asks in range(1, 5):
                    self.assertIs(holds(many, asks, paper), False, paper)

    def test_other_shapes_anywhere(self):
        for paper in with_one_part_changed(holding_paper(3), other_shapes):
            self.assertIs(holds(3, 2, paper), False, paper)
        for paper in itertools.islice(with_one_part_changed(holding_paper(4), other_shapes), 0, None, 7):
            self.assertIs(holds(4, 3, paper), False, paper)

    def test_asks_below_0(self):
        for paper in ((), [], holding_paper(3)):
            self.assertIs(holds(3, -1, paper), False)

    def test_below_2(self):
        for many in (1, 0, -1, -BIG):
            for asks, paper in ((0, ()), (1, []), (2, holding_paper(3)), (1, None)):
                with self.assertRaises(NoThing):
                    holds(many, asks, paper)

    def test_above_4(self):
        for many in (5, 6, 7, 8, 200, BIG):
            for asks, paper in ((0, ()), (1, []), (2, holding_paper(3)), (1, None)):
                with self.assertRaises(TooMany):
                    holds(many, asks, paper)


class HoldingPaper(unittest.TestCase):
    def test_it_is_let_by_for_one_ask_fewer_than_the_fewest(self):
        for many in (2, 3, 4):
            paper = holding_paper(many)
            self.assertIs(holds(many, fewest(many)[0] - 1, paper), True)
            self.assertTrue(plain_holds(many, paper))

    def test_two_things(self):
        self.assertEqual(holding_paper(2), ())

    def check_shape(self, many, asks, paper):
        if asks == 0:
            self.assertEqual((type(paper), paper), (tuple, ()))
            return
        self.assertEqual((type(paper), len(paper)), (list, len(pairs_of(many))))
        for row in paper:
            self.assertEqual([type(row), len(row), type(row[0])], [tuple, 2, bool])
            self.check_shape(many, asks - 1, row[1])

    def test_the_shape(self):
        for many, asks in ((2, 0), (3, 2), (4, 3)):
            self.check_shape(many, asks, holding_paper(many))

    def test_asked_again_the_same(self):
        for many in (2, 3, 4):
            self.assertEqual(holding_paper(many), holding_paper(many))
            self.assertEqual(holding_paper(many), copy.deepcopy(holding_paper(many)))

    def test_below_2(self):
        for many in (1, 0, -1, -BIG):
            with self.assertRaises(NoThing):
                holding_paper(many)

    def test_above_4(self):
        for many in (5, 6, 7, 8, 200, BIG):
            with self.assertRaises(TooMany):
                holding_paper(many)


if __name__ == "__main__":
    unittest.main()
