"""[15] asked one by one, [16] what answers tell of the kinds that most are and the fewest asks at worst."""

import itertools
import unittest

from plain import every_sort, fewest_by_trying, fit, mixed_kinds, most_things, pairs_of

from morethanhalf.errors import NoFit, NoThing, TooMany
from morethanhalf.kinds import most_are
from morethanhalf.most import fewest_most, one_by_one, tells_most

BIG = 10 ** 30 - 1
WRONG = [(0, 1, True), (1, 2, True), (2, 0, False)]

NO_THING = [
    (3, [(0, 3, True)]),
    (3, [(3, 0, False)]),
    (3, [(-1, 0, True)]),
    (3, [(0, -1, False)]),
    (3, [(0, BIG, True)]),
    (3, [(1, 1, True)]),
    (3, [(1, 1, False)]),
    (3, [(0, 1, True), (2, 2, True)]),
    (0, [(0, 1, True)]),
    (1, [(0, 1, False)]),
    (-1, []),
    (-BIG, []),
    (-1, [(0, 1, True)]),
    (-3, [(-1, -2, True)]),
]


def plain_asks(kinds):
    """For each thing the first ones of all kinds ahead of it, up to that of its own kind."""
    firsts = [thing for thing, kind in enumerate(kinds) if kinds.index(kind) == thing]
    asks = []
    for thing, kind in enumerate(kinds):
        own = kinds.index(kind)
        asked = [first for first in firsts if first < thing and first <= own]
        asks.extend((first, thing, first == own) for first in asked)
    return asks


def plain_tells_most(many, answers):
    most = [most_things(kinds) for kinds in every_sort(many, many) if fit(answers, kinds)]
    if not most:
        return None
    sure = set.intersection(*most)
    return ("one", min(sure)) if sure else ("open",)


def all_small_answers():
    """For up to four things each pair left out, alike or unlike."""
    for many in range(5):
        for said in itertools.product((None, True, False), repeat=len(pairs_of(many))):
            yield many, [(i, j, alike) for (i, j), alike in zip(pairs_of(many), said) if alike is not None]


class OneByOne(unittest.TestCase):
    def test_no_things(self):
        self.assertEqual(one_by_one([]), ([], []))

    def test_one_thing(self):
        self.assertEqual(one_by_one([9]), ([], [0]))

    def test_all_alike(self):
        self.assertEqual(one_by_one([9] * 4), ([(0, 1, True), (0, 2, True), (0, 3, True)], [0, 1, 2, 3]))

    def test_all_unlike(self):
        asks = [(0, 1, False), (0, 2, False), (1, 2, False)]
        self.assertEqual(one_by_one([3, 2, 1]), (asks, [0]))

    def test_the_order_of_the_asks(self):
        asks = [(0, 1, False), (0, 2, False), (1, 2, True), (0, 3, False), (1, 3, False), (0, 4, False)]
        asks += [(1, 4, False), (3, 4, True), (0, 5, True), (0, 6, False), (1, 6, False), (3, 6, True)]
        self.assertEqual(one_by_one([8, 5, 5, 2, 2, 8, 2]), (asks, [3, 4, 6]))

    def test_the_first_of_several_greatest_groups(self):
        self.assertEqual(one_by_one([9, 1, 1, 9, 5])[1], [0, 3])
        self.assertEqual(one_by_one([5, 9, 1, 1, 9])[1], [1, 4])
        self.assertEqual(one_by_one([5, 1, 9, 9, 1, 1, 9])[1], [1, 4, 5])
        self.assertEqual(one_by_one([5, 1, 1])[1], [1, 2])

    def test_kinds_below_0_and_of_thirty_figures(self):
        asks = [(0, 1, False), (0, 2, True)]
        self.assertEqual(one_by_one([-BIG, BIG, -BIG]), (asks, [0, 2]))

    def test_two_hundred_things(self):
        asks, things = one_by_one(list(range(200, 0, -1)))
        self.assertEqual(asks, [(i, j, False) for j in range(200) for i in range(j)])
        self.assertEqual(things, [0])
        asks, things = one_by_one([6] * 200)
        self.assertEqual(asks, [(0, j, True) for j in range(1, 200)])
        self.assertEqual(things, list(range(200)))
        self.assertEqual(one_by_one([1, 2] * 99 + [3, 2])[1], list(range(1, 200, 2)))

    def test_as_the_words_are(self):
        some = [kinds for many in range(8) for kinds in every_sort(many, many)]
        some += [mixed_kinds(many, unlike, many) for many in (20, 57, 200) for unlike in (2, 5, 30)]
        for kinds in some:
            asks, things = one_by_one(kinds)
            self.assertEqual(asks, plain_asks(kinds), kinds)
            self.assertEqual(things, (most_are(kinds) + [[]])[0], kinds)
            self.assertTrue(set(things) <= most_things(kinds), kinds)

    def test_the_kinds_of_values(self):
        for kinds in ([], [4], [4, 5, 4]):
            told = one_by_one(kinds)
            self.assertEqual([type(told), type(told[0]), type(told[1])], [tuple, list, list])
            self.assertTrue({type(answer) for answer in told[0]} <= {tuple})
            self.assertTrue({type(answer[2]) for answer in told[0]} <= {bool})


class TellsMost(unittest.TestCase):
    def test_no_things(self):
        self.assertEqual(tells_most(0, []), ("open",))

    def test_one(self):
        self.assertEqual(tells_most(1, []), ("one", 0))
        self.assertEqual(tells_most(2, []), ("one", 0))
        self.assertEqual(tells_most(2, [(1, 0, False)]), ("one", 0))
        self.assertEqual(tells_most(3, [(0, 1, True)]), ("one", 0))
        self.assertEqual(tells_most(7, [(6, 5, True), (5, 4, True), (4, 3, True)]), ("one", 3))

    def test_where_no_kind_has_more_than_half(self):
        self.assertEqual(tells_most(3, [(0, 1, False), (1, 2, False), (0, 2, False)]), ("one", 0))
        self.assertEqual(tells_most(4, [(1, 2, True), (2, 3, False), (0, 1, False)]), ("one", 1))

    def test_the_least_thing(self):
        self.assertEqual(tells_most(3, [(0, 1, False)]), ("one", 2))
        self.assertEqual(tells_most(3, [(2, 1, True)]), ("one", 1))
        self.assertEqual(tells_most(4, [(2, 3, True), (0, 1, True)]), ("one", 0))

    def test_open(self):
        self.assertEqual(tells_most(3, []), ("open",))
        self.assertEqual(tells_most(4, [(0, 1, False)]), ("open",))
        self.assertEqual(tells_most(7, []), ("open",))
        self.assertEqual(tells_most(5, [(0, 1, True), (2, 3, True), (1, 2, False)]), ("open",))

    def test_all_small_answers(self):
        for many, answers in all_small_answers():
            due = plain_tells_most(many, answers)
            if due is None:
                with self.assertRaises(NoFit):
                    tells_most(many, answers)
            else:
                self.assertEqual(tells_most(many, answers), due, (many, answers))

    def test_five_to_seven_things(self):
        for many in (5, 6, 7):
            for seed in range(40):
                kinds = mixed_kinds(many, 2 + seed % 3, seed)
                pairs = pairs_of(many)
                chosen = mixed_kinds(seed % 9, len(pairs), seed + 100)
                answers = [pairs[at] + (kinds[pairs[at][0]] == kinds[pairs[at][1]],) for at in chosen]
                self.assertEqual(tells_most(many, answers), plain_tells_most(many, answers), answers)

    def test_three_hundred_answers(self):
        all_alike = [(at % 6, at % 6 + 1, True) for at in range(300)]
        self.assertEqual(tells_most(7, all_alike), ("one", 0))
        with self.assertRaises(NoFit):
            tells_most(7, all_alike[:299] + [(0, 6, False)])

    def test_no_thing(self):
        for many, answers in NO_THING:
            with self.subTest(many=many, answers=answers), self.assertRaises(NoThing):
                tells_most(many, answers)

    def test_no_thing_ahead_of_no_fit_and_too_many(self):
        for many in (3, 8, 200):
            for last in ((0, many, True), (-1, 0, True), (2, 2, True)):
                with self.assertRaises(NoThing):
                    tells_most(many, WRONG + [last])
                with self.assertRaises(NoThing):
                    tells_most(many, [last])

    def test_no_fit_ahead_of_too_many(self):
        for many in (3, 7, 8, 200, BIG):
            with self.assertRaises(NoFit):
                tells_most(many, WRONG)

    def test_too_many(self):
        for many in (8, 9, 200, BIG):
            for answers in ([], [(0, 1, True)], [(0, 7, False)]):
                with self.assertRaises(TooMany):
                    tells_most(many, answers)


class FewestMost(unittest.TestCase):
    def test_the_numbers(self):
        self.assertEqual([fewest_most(many) for many in (1, 2, 3, 4)], [0, 0, 1, 3])

    def test_no_fewer_and_no_more(self):
        for many in (1, 2, 3, 4):
            self.assertEqual(fewest_most(many), fewest_by_trying(every_sort(many, many), most_things))
            self.assertIs(type(fewest_most(many)), int)

    def test_below_1(self):
        for many in (0, -1, -BIG):
            with self.assertRaises(NoThing):
                fewest_most(many)

    def test_above_4(self):
        for many in (5, 6, 7, 8, 200, BIG):
            with self.assertRaises(TooMany):
                fewest_most(many)


if __name__ == "__main__":
    unittest.main()
