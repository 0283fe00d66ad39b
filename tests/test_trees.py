"""[12] whether trees of asks find out and how deep they are, [13] the fewest asks at worst, and [4] of both."""

import itertools
import unittest

from plain import come_to, ends_right, every_sort, fewest_by_trying, half_things, is_right, longest_way, tree_by

from morethanhalf.errors import NoThing, TooMany
from morethanhalf.most import one_by_one
from morethanhalf.rows import in_a_row, in_rows
from morethanhalf.trees import depth, fewest, fewest_of_two, finds_out

BIG = 10 ** 30 - 1
NONE = ("none",)

TWO = ("ask", 0, 1, ("one", 0), NONE)
THREE = ("ask", 0, 1, ("one", 1), ("ask", 1, 2, ("one", 2), ("ask", 2, 0, ("one", 0), NONE)))

BAD_PARTS = [
    ("one", -1),
    ("one", 3),
    ("one", BIG),
    ("one", -BIG),
    ("ask", 0, 3, NONE, NONE),
    ("ask", 3, 0, NONE, NONE),
    ("ask", 0, -1, NONE, NONE),
    ("ask", -1, 0, NONE, NONE),
    ("ask", 3, 3, NONE, NONE),
    ("ask", 0, 0, NONE, NONE),
    ("ask", 2, 2, ("one", 0), NONE),
    ("ask", 0, 1, ("one", 3), NONE),
    ("ask", 0, 1, ("one", 0), ("one", -1)),
    ("ask", 0, 1, ("ask", 1, 1, NONE, NONE), ("one", 0)),
]


def long_way(tree, asks, side):
    """A way of so many asks of the same two things, with the tree at its end."""
    for step in range(asks):
        tree = ("ask", 0, 1, tree, NONE) if side else ("ask", 1, 0, NONE, tree)
    return tree


def with_one_end_changed(tree, ends):
    """All trees that miss this one by one end."""
    if tree[0] != "ask":
        yield from (end for end in ends if end != tree)
    else:
        yield from (tree[:3] + (part, tree[4]) for part in with_one_end_changed(tree[3], ends))
        yield from (tree[:4] + (part,) for part in with_one_end_changed(tree[4], ends))


class FindsOut(unittest.TestCase):
    def test_no_things(self):
        self.assertIs(finds_out(0, NONE), True)
        for tree in (("one", 0), ("one", -1), TWO, ("ask", 0, 0, NONE, NONE)):
            self.assertIs(finds_out(0, tree), False)

    def test_one_thing(self):
        self.assertIs(finds_out(1, ("one", 0)), True)
        for tree in (NONE, ("one", 1), ("one", -1), TWO, ("ask", 0, 0, ("one", 0), ("one", 0))):
            self.assertIs(finds_out(1, tree), False)

    def test_two_and_three_things(self):
        self.assertIs(finds_out(2, TWO), True)
        self.assertIs(finds_out(2, ("ask", 1, 0, ("one", 1), NONE)), True)
        self.assertIs(finds_out(2, ("ask", 0, 1, NONE, ("one", 0))), False)
        self.assertIs(finds_out(2, ("one", 0)), False)
        self.assertIs(finds_out(2, NONE), False)
        self.assertIs(finds_out(3, THREE), True)
        self.assertIs(finds_out(2, THREE), False)
        self.assertIs(finds_out(3, TWO), False)
        self.assertIs(finds_out(4, THREE), False)

    def test_right_for_two_kinds_and_not_for_three(self):
        tree = ("ask", 0, 1, ("one", 0), ("ask", 0, 2, ("one", 0), ("one", 1)))
        self.assertTrue(ends_right(tree, every_sort(3, 2)))
        self.assertIs(finds_out(3, tree), False)

    def test_trees_that_miss_by_one_end(self):
        missed = 0
        for many in range(1, 6):
            sorts = every_sort(many, many)
            ends = [NONE] + [("one", thing) for thing in range(many)]
            for tree in with_one_end_changed(fewest(many)[1], ends):
                due = ends_right(tree, sorts)
                missed += not due
                self.assertIs(finds_out(many, tree), due, (many, tree))
        self.assertGreater(missed, 100)

    def test_an_end_of_a_thing_that_is_none(self):
        for many in range(1, 5):
            for tree in with_one_end_changed(fewest(many)[1], [("one", many), ("one", -1), ("one", BIG)]):
                self.assertIs(finds_out(many, tree), False)

    def test_two_ends_of_one_thing_each(self):
        for first, second in itertools.product([NONE, ("one", 0), ("one", 1)], repeat=2):
            due = first != NONE and second == NONE
            self.assertIs(finds_out(2, ("ask", 0, 1, first, second)), due)

    def test_parts_that_are_come_to(self):
        for bad in BAD_PARTS:
            self.assertIs(finds_out(3, bad), False)
            self.assertIs(finds_out(3, ("ask", 0, 1, bad, THREE)), False)
            self.assertIs(finds_out(3, ("ask", 0, 1, THREE, bad)), False)

    def test_parts_that_are_never_come_to(self):
        for good in (NONE, ("one", 0), ("one", 2), TWO, THREE):
            self.assertIs(finds_out(3, ("ask", 0, 1, ("ask", 1, 0, THREE, good), THREE)), True)
            self.assertIs(finds_out(3, ("ask", 0, 1, THREE, ("ask", 0, 1, good, THREE))), True)
        for bad in BAD_PARTS:
            self.assertIs(finds_out(3, ("ask", 0, 1, ("ask", 1, 0, THREE, bad), THREE)), False)
            self.assertIs(finds_out(3, ("ask", 0, 1, THREE, ("ask", 0, 1, bad, THREE))), False)
            deeper = ("ask", 0, 2, ("ask", 2, 1, NONE, bad), NONE)
            self.assertIs(finds_out(3, ("ask", 0, 1, ("ask", 1, 0, THREE, deeper), THREE)), False)

    def test_up_to_seven_things(self):
        for many in range(8):
            sorts = every_sort(many, many)
            for asked in (in_a_row, in_rows):
                tree = tree_by(asked, sorts)
                self.assertIs(finds_out(many, tree), True)
                self.assertIs(finds_out(many, ("ask", 0, many, tree, tree)), False)
                if many > 2:
                    self.assertIs(finds_out(many, ("ask", 0, 1, tree, NONE)), False)
            if many < 7:
                self.assertIs(finds_out(many + 1, tree), False)

    def test_seven_things_with_one_end_changed(self):
        sorts = every_sort(7, 7)
        tree = tree_by(in_rows, sorts)
        for at, changed in enumerate(with_one_end_changed(tree, [NONE, ("one", 3)])):
            if at % 12 == 0:
                self.assertIs(finds_out(7, changed), ends_right(changed, sorts))

    def test_wrong_for_one_sort_alone(self):
        def asked(kinds):
            things = sorted(half_things(kinds))
            return (one_by_one(kinds)[0], ("one", things[0]) if things else NONE)

        for many in range(2, 7):
            sorts = every_sort(many, many)
            tree = tree_by(asked, sorts)
            self.assertIs(finds_out(many, tree), True)
            for changed in with_one_end_changed(tree, [NONE, ("one", 1)]):
                self.assertIs(finds_out(many, changed), ends_right(changed, sorts), changed)

    def test_a_way_of_a_hundred_and_twenty_asks(self):
        for side in (True, False):
            for asks in (117, 120):
                long = long_way(THREE, asks, side)
                tree = ("ask", 0, 1, long, THREE) if side else ("ask", 0, 1, THREE, long)
                self.assertIs(finds_out(3, tree), True)
                bad = long_way(("one", 3), asks, side)
                self.assertIs(finds_out(3, ("ask", 0, 1, THREE, bad)), False)
                self.assertIs(finds_out(3, long), False)

    def test_a_long_way_on_both_sides(self):
        tree = THREE
        for step in range(120):
            tree = ("ask", 0, 1, tree, tree)
        self.assertIs(finds_out(3, tree), True)
        self.assertIs(finds_out(4, tree), False)
        self.assertEqual(depth(tree), 123)

    def test_below_0(self):
        for many in (-1, -2, -BIG):
            for tree in (NONE, ("one", 0), THREE, BAD_PARTS[4]):
                with self.assertRaises(NoThing):
                    finds_out(many, tree)

    def test_too_many(self):
        for many in (8, 9, 200, BIG):
            for tree in (NONE, ("one", 0), THREE, ("one", -1), ("ask", 0, 0, NONE, NONE)):
                with self.assertRaises(TooMany):
                    finds_out(many, tree)


class Depth(unittest.TestCase):
    def test_an_end(self):
        self.assertEqual([depth(NONE), depth(("one", 0)), depth(("one", BIG))], [0, 0, 0])

    def test_branched_trees(self):
        self.assertEqual([depth(TWO), depth(THREE)], [1, 3])
        self.assertEqual(depth(("ask", 0, 1, TWO, THREE)), 4)
        self.assertEqual(depth(("ask", 0, 1, THREE, TWO)), 4)
        self.assertEqual(depth(("ask", 0, 1, TWO, NONE)), 2)
        self.assertEqual(depth(("ask", 0, 1, NONE, TWO)), 2)
        self.assertEqual(depth(("ask", 0, 1, TWO, TWO)), 2)

    def test_trees_of_things_that_are_none(self):
        self.assertEqual(depth(("ask", 5, 5, ("one", -1), ("ask", -1, BIG, NONE, NONE))), 2)

    def test_trees_of_ways_of_asking(self):
        for many in range(8):
            for asked in (in_a_row, in_rows):
                tree = tree_by(asked, every_sort(many, many))
                self.assertEqual(depth(tree), longest_way(tree))
                self.assertEqual(depth(tree), max(len(asked(kinds)[0]) for kinds in every_sort(many, many)))

    def test_one_long_way(self):
        for side in (True, False):
            self.assertEqual(depth(long_way(NONE, 200, side)), 200)
            self.assertEqual(depth(long_way(THREE, 197, side)), 200)
        tree = NONE
        for step in range(200):
            tree = ("ask", 0, 1, tree, NONE) if step % 2 else ("ask", 0, 1, NONE, tree)
        self.assertEqual(depth(tree), 200)

    def test_two_long_ways_side_by_side(self):
        self.assertEqual(depth(("ask", 0, 1, long_way(NONE, 199, True), long_way(NONE, 199, True))), 200)
        self.assertEqual(depth(("ask", 0, 1, long_way(NONE, 150, True), long_way(NONE, 199, False))), 200)
        self.assertEqual(depth(("ask", 0, 1, long_way(NONE, 199, True), long_way(NONE, 150, True))), 200)


class Fewest(unittest.TestCase):
    def test_one_thing(self):
        self.assertEqual(fewest(1), (0, ("one", 0)))

    def test_the_numbers(self):
        self.assertEqual([fewest(many)[0] for many in range(1, 6)], [0, 1, 3, 4, 6])

    def test_the_tree_finds_out_and_has_this_depth(self):
        for many in range(1, 6):
            number, tree = fewest(many)
            self.assertIs(finds_out(many, tree), True)
            self.assertTrue(ends_right(tree, every_sort(many, many)))
            self.assertEqual(depth(tree), number)
            self.assertEqual(longest_way(tree), number)

    def test_no_tree_does_with_fewer(self):
        for many in range(1, 6):
            self.assertEqual(fewest(many)[0], fewest_by_trying(every_sort(many, many), half_things))

    def test_asked_again_the_same(self):
        for many in range(1, 6):
            self.assertEqual(fewest(many), fewest(many))

    def test_below_1(self):
        for many in (0, -1, -BIG):
            with self.assertRaises(NoThing):
                fewest(many)

    def test_above_5(self):
        for many in (6, 7, 8, 200, BIG):
            with self.assertRaises(TooMany):
                fewest(many)


class FewestOfTwo(unittest.TestCase):
    def test_one_thing(self):
        self.assertEqual(fewest_of_two(1), (0, ("one", 0)))

    def test_the_numbers(self):
        self.assertEqual([fewest_of_two(many)[0] for many in range(1, 8)], [0, 1, 1, 3, 3, 4, 4])

    def test_the_tree_finds_out_for_two_kinds_and_has_this_depth(self):
        for many in range(1, 8):
            number, tree = fewest_of_two(many)
            self.assertEqual(depth(tree), number)
            self.assertEqual(longest_way(tree), number)
            for kinds in every_sort(many, 2):
                self.assertTrue(is_right(come_to(tree, kinds), kinds), (many, kinds))

    def test_the_tree_names_things_that_are_there(self):
        for many in range(1, 8):
            level = [fewest_of_two(many)[1]]
            while level:
                for part in level:
                    self.assertTrue(all(0 <= thing < many for thing in part[1:3]), part)
                    self.assertTrue(part[0] != "ask" or part[1] != part[2], part)
                level = [branch for part in level for branch in part[3:]]

    def test_no_tree_does_with_fewer(self):
        for many in range(1, 8):
            self.assertEqual(fewest_of_two(many)[0], fewest_by_trying(every_sort(many, 2), half_things))

    def test_asked_again_the_same(self):
        for many in range(1, 8):
            self.assertEqual(fewest_of_two(many), fewest_of_two(many))

    def test_below_1(self):
        for many in (0, -1, -BIG):
            with self.assertRaises(NoThing):
                fewest_of_two(many)

    def test_above_7(self):
        for many in (8, 9, 200, BIG):
            with self.assertRaises(TooMany):
                fewest_of_two(many)


class TheKindsOfValues(unittest.TestCase):
    def check_tree(self, tree):
        self.assertIs(type(tree), tuple)
        if tree[0] == "ask":
            self.assertEqual([type(each) for each in tree], [str, int, int, tuple, tuple])
            self.check_tree(tree[3])
            self.check_tree(tree[4])
        else:
            self.assertIn([type(each) for each in tree], ([str, int], [str]))
            self.assertIn(tree[0], ("one", "none"))

    def test_a_tuple_of_a_number_and_a_tree(self):
        for told in [fewest(many) for many in range(1, 6)] + [fewest_of_two(many) for many in range(1, 8)]:
            self.assertEqual([type(told), len(told), type(told[0])], [tuple, 2, int])
            self.check_tree(told[1])


if __name__ == "__main__":
    unittest.main()
