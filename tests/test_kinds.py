"""[5] the kinds that are seen, and [6] sorts."""

import itertools
import unittest

from morethanhalf.errors import TooMany
from morethanhalf.kinds import all_sorts, more_than_half, most_are, sorts_of

BIG = 10 ** 30 - 1


def things_of(kinds, kind):
    return [thing for thing in range(len(kinds)) if kinds[thing] == kind]


def plain_more_than_half(kinds):
    for kind in kinds:
        if kinds.count(kind) * 2 > len(kinds):
            return things_of(kinds, kind)
    return []


def plain_most_are(kinds):
    told = []
    for kind in kinds:
        if all(kinds.count(kind) >= kinds.count(other) for other in kinds):
            if things_of(kinds, kind) not in told:
                told.append(things_of(kinds, kind))
    return told


def plain_sorts_of(kinds):
    return [
        len({kinds[at] for at in range(kinds.index(kind))})
        for kind in kinds
    ]


def small_kinds():
    for many in range(7):
        for kinds in itertools.product((4, -2, 0), repeat=many):
            yield list(kinds)


class MoreThanHalf(unittest.TestCase):
    def test_no_things(self):
        self.assertEqual(more_than_half([]), [])

    def test_one_thing(self):
        self.assertEqual(more_than_half([0]), [0])
        self.assertEqual(more_than_half([-8]), [0])

    def test_just_half_is_not_more(self):
        self.assertEqual(more_than_half([1, 2]), [])
        self.assertEqual(more_than_half([3, 1, 3, 2]), [])
        self.assertEqual(more_than_half([1, 1, 2, 2]), [])

    def test_one_more_than_half(self):
        self.assertEqual(more_than_half([3, 1, 3, 3]), [0, 2, 3])
        self.assertEqual(more_than_half([1, 3, 3]), [1, 2])
        self.assertEqual(more_than_half([1, 3, 2, 3, 3]), [1, 3, 4])

    def test_the_most_but_not_more_than_half(self):
        self.assertEqual(more_than_half([1, 1, 2, 3]), [])
        self.assertEqual(more_than_half([1, 1, 2, 3, 4]), [])

    def test_kinds_below_0_and_of_thirty_figures(self):
        self.assertEqual(more_than_half([-BIG, BIG, -BIG]), [0, 2])
        self.assertEqual(more_than_half([BIG - 1, BIG, BIG, BIG - 2]), [])

    def test_two_hundred_things(self):
        self.assertEqual(more_than_half([1, 2] * 100), [])
        self.assertEqual(more_than_half([1, 2] * 99 + [2, 2]), list(range(1, 199, 2)) + [198, 199])
        self.assertEqual(more_than_half([7] * 200), list(range(200)))

    def test_all_small_kinds(self):
        for kinds in small_kinds():
            self.assertEqual(more_than_half(kinds), plain_more_than_half(kinds), kinds)


class MostAre(unittest.TestCase):
    def test_no_things(self):
        self.assertEqual(most_are([]), [])

    def test_one_thing(self):
        self.assertEqual(most_are([9]), [[0]])

    def test_several_kinds_by_their_first_things(self):
        self.assertEqual(most_are([9, 1, 1, 9, 5]), [[0, 3], [1, 2]])
        self.assertEqual(most_are([5, 9, 1, 1, 9]), [[1, 4], [2, 3]])
        self.assertEqual(most_are([3, 2, 1]), [[0], [1], [2]])

    def test_one_kind(self):
        self.assertEqual(most_are([3, 2, 2, 1]), [[1, 2]])

    def test_kinds_below_0_and_of_thirty_figures(self):
        self.assertEqual(most_are([BIG, -BIG, -BIG, BIG, 0]), [[0, 3], [1, 2]])

    def test_two_hundred_things(self):
        self.assertEqual(most_are(list(range(200, 0, -1))), [[at] for at in range(200)])
        self.assertEqual(most_are([0, 1] * 100), [list(range(0, 200, 2)), list(range(1, 200, 2))])

    def test_all_small_kinds(self):
        for kinds in small_kinds():
            self.assertEqual(most_are(kinds), plain_most_are(kinds), kinds)


class SortsOf(unittest.TestCase):
    def test_ordinary(self):
        self.assertEqual(sorts_of([]), [])
        self.assertEqual(sorts_of([6]), [0])
        self.assertEqual(sorts_of([5, 7, 5, 1, 7, 0]), [0, 1, 0, 2, 1, 3])

    def test_kinds_below_0_and_of_thirty_figures(self):
        self.assertEqual(sorts_of([BIG, -BIG, BIG, -1, -BIG]), [0, 1, 0, 2, 1])

    def test_two_hundred_things(self):
        self.assertEqual(sorts_of(list(range(200, 0, -1))), list(range(200)))

    def test_all_small_kinds(self):
        for kinds in small_kinds():
            self.assertEqual(sorts_of(kinds), plain_sorts_of(kinds), kinds)


class AllSorts(unittest.TestCase):
    def test_few_things(self):
        self.assertEqual(all_sorts(0, 0), [[]])
        self.assertEqual(all_sorts(1, 1), [[0]])
        self.assertEqual(all_sorts(2, 2), [[0, 0], [0, 1]])
        self.assertEqual(all_sorts(3, 3), [[0, 0, 0], [0, 0, 1], [0, 1, 0], [0, 1, 1], [0, 1, 2]])

    def test_how_many_there_are(self):
        self.assertEqual([len(all_sorts(many, many)) for many in range(8)], [1, 1, 2, 5, 15, 52, 203, 877])

    def test_none_to_seven_things_of_at_most_so_many_kinds(self):
        for many in range(8):
            every = [list(row) for row in itertools.product(*[range(at + 1) for at in range(many)])]
            every = sorted(row for row in every if plain_sorts_of(row) == row)
            for most in range(-2, many + 3):
                due = [sort for sort in every if len(set(sort)) <= most or many == 0]
                self.assertEqual(all_sorts(many, most), due, (many, most))

    def test_fewer_kinds_than_things(self):
        self.assertEqual(all_sorts(3, 2), [[0, 0, 0], [0, 0, 1], [0, 1, 0], [0, 1, 1]])
        self.assertEqual(all_sorts(7, 1), [[0] * 7])
        self.assertEqual(len(all_sorts(7, 2)), 64)

    def test_far_more_kinds_than_things(self):
        for many in range(8):
            self.assertEqual(all_sorts(many, 10 ** 29), all_sorts(many, many))

    def test_no_kinds_and_below(self):
        for most in (0, -1, -BIG):
            self.assertEqual(all_sorts(0, most), [[]])
            for many in range(1, 8):
                self.assertEqual(all_sorts(many, most), [])

    def test_too_many(self):
        for many in (-BIG, -2, -1, 8, 9, 200, BIG):
            for most in (-1, 0, 1, 2, many, 300):
                with self.assertRaises(TooMany):
                    all_sorts(many, most)


if __name__ == "__main__":
    unittest.main()
