"""[10] asked in a row, [11] asked in rows of unlike neighbours, and [4] of both."""

import itertools
import unittest

from plain import every_sort, half_things, is_right, mixed_kinds

from morethanhalf.answers import tells
from morethanhalf.rows import in_a_row, in_rows

BIG = 10 ** 30 - 1


def plain_in_a_row(kinds):
    """The asks and what is found, written down from the words of [10]."""
    if not kinds:
        return ([], ("none",))
    asks = []
    taken, count = 0, 1
    for thing in range(1, len(kinds)):
        if count == 0:
            taken, count = thing, 1
        else:
            asks.append((taken, thing, kinds[taken] == kinds[thing]))
            count += 1 if asks[-1][2] else -1
    rest = list(range(taken))
    while True:
        said = [alike for i, j, alike in asks if i == taken]
        if 2 * (1 + said.count(True)) > len(kinds):
            return (asks, ("one", taken))
        if 2 * (len(kinds) - said.count(False)) <= len(kinds):
            return (asks, ("none",))
        thing = rest.pop(0)
        asks.append((taken, thing, kinds[taken] == kinds[thing]))


def plain_in_rows(kinds):
    """The asks and what is found, written down from the words of [11]."""
    if not kinds:
        return ([], ("none",))
    asks, row, heap = [], (0,), ()
    for thing in range(1, len(kinds)):
        asks.append((row[-1], thing, kinds[row[-1]] == kinds[thing]))
        if asks[-1][2]:
            heap = heap + (thing,)
        else:
            row, heap = row + (thing,) + heap[-1:], heap[:-1]
    t = row[-1]
    while row:
        alike = kinds[row[-1]] == kinds[t]
        if row[-1] != t:
            asks.append((t, row[-1], alike))
        if alike:
            row, heap = row[:-2], heap + row if len(row) == 1 else heap
        elif heap:
            row, heap = row[:-1], heap[:-1]
        else:
            return (asks, ("none",))
    return (asks, ("one", t) if heap else ("none",))


def many_kinds():
    """All sorts of at most seven things, and mixed kinds of more."""
    for many in range(8):
        yield from every_sort(many, many)
    for many in (8, 9, 13, 20, 50, 99, 100, 199, 200):
        for unlike in (1, 2, 3, 10):
            for seed in range(4):
                kinds = mixed_kinds(many, unlike, seed + 7 * many)
                yield kinds
                yield sorted(kinds)
                yield [0 if at % 2 else kind for at, kind in enumerate(kinds)]
                yield [kind if at > many // 2 else 0 for at, kind in enumerate(kinds)]
                yield [kind if at < (many - 1) // 2 else 0 for at, kind in enumerate(kinds)]


class InARow(unittest.TestCase):
    def test_no_things(self):
        self.assertEqual(in_a_row([]), ([], ("none",)))

    def test_one_thing(self):
        self.assertEqual(in_a_row([4]), ([], ("one", 0)))

    def test_two_things(self):
        self.assertEqual(in_a_row([4, 4]), ([(0, 1, True)], ("one", 0)))
        self.assertEqual(in_a_row([4, 5]), ([(0, 1, False)], ("none",)))

    def test_all_alike(self):
        self.assertEqual(in_a_row([4] * 5), ([(0, at, True) for at in range(1, 5)], ("one", 0)))

    def test_all_unlike(self):
        asks = [(0, 1, False), (2, 0, False), (2, 1, False)]
        self.assertEqual(in_a_row([3, 2, 1]), (asks, ("none",)))
        asks = [(0, 1, False), (2, 3, False), (2, 0, False)]
        self.assertEqual(in_a_row([4, 3, 2, 1]), (asks, ("none",)))

    def test_just_half_ahead_and_behind(self):
        asks = [(0, 1, True), (0, 2, False), (0, 3, False)]
        self.assertEqual(in_a_row([1, 1, 2, 3]), (asks, ("none",)))
        asks = [(0, 1, False), (2, 3, True), (2, 0, False), (2, 1, False)]
        self.assertEqual(in_a_row([1, 2, 3, 3]), (asks, ("none",)))

    def test_one_more_than_half_ahead_and_behind(self):
        asks = [(0, 1, True), (0, 2, True), (0, 3, False)]
        self.assertEqual(in_a_row([1, 1, 1, 2]), (asks, ("one", 0)))
        asks = [(0, 1, False), (2, 3, True), (2, 0, False), (2, 1, True)]
        self.assertEqual(in_a_row([1, 3, 3, 3]), (asks, ("one", 2)))

    def test_the_count_at_0_in_the_middle(self):
        asks = [(0, 1, True), (0, 2, False), (0, 3, False), (4, 5, True), (4, 0, True)]
        self.assertEqual(in_a_row([3, 3, 1, 2, 3, 3])[0][:4], asks[:4])
        self.assertEqual(in_a_row([3, 3, 1, 2, 3, 3]), (asks + [(4, 1, True)], ("one", 4)))

    def test_the_count_at_0_at_the_end(self):
        asks = [(0, 1, False), (2, 3, False), (2, 0, True), (2, 1, False)]
        self.assertEqual(in_a_row([1, 2, 1, 2]), (asks, ("none",)))

    def test_no_ask_more_once_more_than_half_are_known(self):
        asks = [(0, 1, True), (0, 2, False), (0, 3, False), (4, 0, True), (4, 1, True)]
        self.assertEqual(in_a_row([3, 3, 1, 2, 3]), (asks, ("one", 4)))

    def test_no_ask_more_once_it_is_known_that_they_cannot_be(self):
        asks = [(0, 1, True), (0, 2, False), (0, 3, False), (4, 0, False), (4, 1, False), (4, 2, False)]
        self.assertEqual(in_a_row([1, 1, 2, 2, 3]), (asks, ("none",)))

    def test_only_what_was_asked_with_the_taken_one_is_known(self):
        asks, found = in_a_row([0, 0, 1, 0, 0, 1, 1, 1, 2])
        self.assertEqual(asks[7:], [(8, at, False) for at in range(5)])
        self.assertEqual(found, ("none",))

    def test_kinds_below_0_and_of_thirty_figures(self):
        self.assertEqual(in_a_row([-BIG, BIG, BIG])[1], ("one", 2))
        self.assertEqual(in_a_row([-BIG, BIG, BIG - 1])[1], ("none",))

    def test_two_hundred_things(self):
        asks, found = in_a_row([1, 2] * 100)
        self.assertEqual(asks[:100], [(at, at + 1, False) for at in range(0, 200, 2)])
        self.assertEqual(asks[100:], [(198, at, at % 2 == 0) for at in range(198)])
        self.assertEqual(found, ("none",))
        self.assertEqual(in_a_row([7] * 200), ([(0, at, True) for at in range(1, 200)], ("one", 0)))
        self.assertEqual(in_a_row([1] * 99 + [2] * 101)[1], ("one", 198))
        self.assertEqual(in_a_row([1] * 100 + [2] * 100)[1], ("none",))

    def test_as_the_words_are(self):
        for kinds in many_kinds():
            self.assertEqual(in_a_row(kinds), plain_in_a_row(kinds), kinds)

    def test_at_most_twice_the_things_less_2(self):
        for kinds in many_kinds():
            self.assertLessEqual(len(in_a_row(kinds)[0]), max(0, 2 * len(kinds) - 2), kinds)

    def test_no_two_things_asked_twice(self):
        for kinds in many_kinds():
            asks = in_a_row(kinds)[0]
            self.assertEqual(len({frozenset((i, j)) for i, j, alike in asks}), len(asks), kinds)


class InRows(unittest.TestCase):
    def test_no_things(self):
        self.assertEqual(in_rows([]), ([], ("none",)))

    def test_one_thing(self):
        self.assertEqual(in_rows([4]), ([], ("one", 0)))

    def test_two_things(self):
        self.assertEqual(in_rows([4, 4]), ([(0, 1, True)], ("one", 0)))
        self.assertEqual(in_rows([4, 5]), ([(0, 1, False)], ("none",)))

    def test_the_row_used_up_and_the_heap_not_empty(self):
        self.assertEqual(in_rows([0, 1, 1]), ([(0, 1, False), (1, 2, True)], ("one", 1)))
        self.assertEqual(in_rows([7] * 4), ([(0, 1, True), (0, 2, True), (0, 3, True)], ("one", 0)))

    def test_the_row_used_up_and_the_heap_empty(self):
        asks = [(0, 1, True), (0, 2, False), (1, 3, False), (3, 2, True)]
        self.assertEqual(in_rows([0, 0, 1, 1]), (asks, ("none",)))

    def test_one_thing_left_alone_that_is_alike(self):
        asks = [(0, 1, True), (0, 2, False), (1, 0, True)]
        self.assertEqual(in_rows([0, 0, 1]), (asks, ("one", 1)))
        asks = [(0, 1, False), (1, 2, False), (2, 0, True)]
        self.assertEqual(in_rows([0, 1, 0]), (asks, ("one", 2)))

    def test_one_thing_left_alone_that_is_unlike(self):
        asks = [(0, 1, False), (1, 2, False), (2, 0, False)]
        self.assertEqual(in_rows([0, 1, 2]), (asks, ("none",)))
        asks = [(0, 1, False), (1, 2, False), (2, 3, True), (2, 0, False)]
        self.assertEqual(in_rows([0, 1, 2, 2]), (asks, ("none",)))
        asks = [(0, 1, False), (1, 2, False), (2, 3, True), (2, 4, True), (2, 0, False)]
        self.assertEqual(in_rows([0, 1, 2, 2, 2]), (asks, ("one", 2)))

    def test_the_thing_of_the_heap_that_came_last(self):
        asks = [(0, 1, True), (0, 2, True), (0, 3, False), (2, 0, True)]
        self.assertEqual(in_rows([0, 0, 0, 1]), (asks, ("one", 2)))
        asks = [(0, 1, True), (0, 2, True), (0, 3, False), (2, 4, False), (1, 2, True), (1, 0, True)]
        self.assertEqual(in_rows([0, 0, 0, 1, 1]), (asks, ("one", 1)))

    def test_the_heap_empty_and_something_of_the_row_left(self):
        asks = [(0, 1, False), (1, 2, False), (2, 3, False), (3, 4, True), (3, 1, False), (3, 0, True)]
        self.assertEqual(in_rows([0, 1, 2, 0, 0]), (asks, ("one", 3)))

    def test_none_at_once_where_the_heap_is_empty(self):
        asks = [(0, 1, False), (1, 2, False), (2, 3, False), (3, 1, False)]
        self.assertEqual(in_rows([0, 1, 2, 3]), (asks, ("none",)))

    def test_kinds_below_0_and_of_thirty_figures(self):
        self.assertEqual(in_rows([-BIG, BIG, BIG])[1], ("one", 1))
        self.assertEqual(in_rows([-BIG, BIG, BIG - 1])[1], ("none",))

    def test_two_hundred_things(self):
        asks, found = in_rows([1, 2] * 100)
        self.assertEqual(asks[:199], [(at, at + 1, False) for at in range(199)])
        self.assertEqual(asks[199:], [(199, at, True) for at in range(197, 0, -2)])
        self.assertEqual(found, ("none",))
        self.assertEqual(in_rows([7] * 200), ([(0, at, True) for at in range(1, 200)], ("one", 0)))
        asks, found = in_rows([1] * 101 + [2] * 99)
        self.assertEqual((len(asks), found), (298, ("one", 2)))
        self.assertEqual(in_rows([1] * 100 + [2] * 100)[1], ("none",))

    def test_as_the_words_are(self):
        for kinds in many_kinds():
            self.assertEqual(in_rows(kinds), plain_in_rows(kinds), kinds)

    def test_no_more_than_three_times_the_things_halved_rounded_up_less_2(self):
        for kinds in many_kinds():
            self.assertLessEqual(len(in_rows(kinds)[0]), max(0, (3 * len(kinds) + 1) // 2 - 2), kinds)


class TheWhole(unittest.TestCase):
    def test_what_is_found_is_right(self):
        for asked, kinds in itertools.product((in_a_row, in_rows), many_kinds()):
            found = asked(kinds)[1]
            self.assertTrue(is_right(found, kinds), (asked.__name__, kinds))
            self.assertEqual(found == ("none",), not half_things(kinds), (asked.__name__, kinds))

    def test_each_ask_tells_right_of_two_unlike_things(self):
        for asked, kinds in itertools.product((in_a_row, in_rows), many_kinds()):
            for i, j, alike in asked(kinds)[0]:
                self.assertNotEqual(i, j)
                self.assertIs(alike, kinds[i] == kinds[j])

    def test_the_asks_alone_tell_what_is_found(self):
        for asked in (in_a_row, in_rows):
            for many in range(7):
                for kinds in every_sort(many, many):
                    asks, found = asked(kinds)
                    told = tells(many, asks)
                    self.assertEqual(told[0], found[0], kinds)


if __name__ == "__main__":
    unittest.main()
