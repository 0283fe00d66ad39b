"""[19] a keeper, [20] what it tells, and [4] of what is kept."""

import unittest

from plain import half_things, numbers_from

from morethanhalf.errors import NoAsk, NoName
from morethanhalf.kept import Keeper
from morethanhalf.kinds import more_than_half
from morethanhalf.most import one_by_one

BIG = 10 ** 21 - 1


def answered(keeper, kinds):
    """Answer all that the keeper wants by the kinds of the names: the asks it made."""
    asks = []
    while keeper.wants() is not None:
        first, new = keeper.wants()
        asks.append((first, new, kinds[first] == kinds[new]))
        keeper.hear(asks[-1][2])
    return asks


def keeper_of(kinds):
    """A keeper that names came to, with these kinds."""
    keeper = Keeper()
    for name in kinds:
        keeper.come(name)
        answered(keeper, kinds)
    return keeper


def told_by(keeper):
    return (keeper.most(), keeper.groups(), keeper.heard())


class Plain:
    """A keeper written down from the words of [19] and [20], which sees the kinds itself."""

    def __init__(self):
        self.there = []
        self.begun = []
        self.heard = 0

    def come(self, name, kind):
        asks = []
        for begun in self.begun:
            first = [one for one, its_kind in self.there if its_kind == begun][0]
            asks.append((first, name, begun == kind))
            if begun == kind:
                break
        if kind not in self.begun:
            self.begun.append(kind)
        self.there.append((name, kind))
        self.heard += len(asks)
        return asks

    def go(self, name):
        self.there = [(one, kind) for one, kind in self.there if one != name]
        self.begun = [begun for begun in self.begun if begun in [kind for one, kind in self.there]]

    def told(self):
        names = [name for name, kind in self.there]
        half = sorted(half_things([kind for name, kind in self.there]))
        return ([names[thing] for thing in half], len(self.begun), self.heard)


class Wanted(unittest.TestCase):
    def test_nothing_at_the_beginning(self):
        keeper = Keeper()
        self.assertIsNone(keeper.wants())
        self.assertEqual(told_by(keeper), ([], 0, 0))

    def test_nothing_of_the_first_thing(self):
        keeper = Keeper()
        self.assertIsNone(keeper.come(7))
        self.assertIsNone(keeper.wants())
        self.assertEqual(told_by(keeper), ([7], 1, 0))

    def test_the_asks_in_the_order_of_the_beginnings(self):
        keeper = keeper_of({30: "a", 20: "b", 10: "c"})
        keeper.come(5)
        for first in (30, 20, 10):
            self.assertEqual(keeper.wants(), (first, 5))
            self.assertEqual(keeper.wants(), (first, 5))
            self.assertIsNone(keeper.hear(False))
        self.assertIsNone(keeper.wants())
        self.assertEqual(keeper.groups(), 4)

    def test_alike_with_the_first_one(self):
        keeper = keeper_of({30: "a", 20: "b", 10: "c"})
        keeper.come(5)
        keeper.hear(True)
        self.assertIsNone(keeper.wants())
        self.assertEqual(told_by(keeper), ([], 3, 4))
        keeper.come(6)
        self.assertEqual(answered(keeper, {30: 1, 6: 1}), [(30, 6, True)])
        self.assertEqual(told_by(keeper), ([30, 5, 6], 3, 5))

    def test_alike_with_the_last_one(self):
        keeper = keeper_of({30: "a", 20: "b", 10: "c"})
        keeper.come(5)
        self.assertEqual(answered(keeper, {30: 1, 20: 2, 10: 3, 5: 3}), [(30, 5, False), (20, 5, False), (10, 5, True)])
        self.assertEqual(told_by(keeper), ([], 3, 6))
        keeper.go(30)
        self.assertEqual(told_by(keeper), ([10, 5], 2, 6))

    def test_the_first_one_that_is_there(self):
        keeper = keeper_of({3: "a", 9: "b", 5: "a", 1: "a"})
        keeper.go(3)
        keeper.come(4)
        self.assertEqual(keeper.wants(), (5, 4))
        keeper.hear(False)
        self.assertEqual(keeper.wants(), (9, 4))
        keeper.hear(True)
        keeper.go(5)
        keeper.go(9)
        keeper.come(8)
        self.assertEqual(answered(keeper, {1: "a", 4: "b", 8: "c"}), [(1, 8, False), (4, 8, False)])

    def test_a_group_keeps_its_place_when_its_first_one_goes(self):
        keeper = keeper_of({1: "a", 2: "b", 3: "a"})
        keeper.go(1)
        keeper.come(4)
        self.assertEqual(answered(keeper, {2: "b", 3: "a", 4: "c"}), [(3, 4, False), (2, 4, False)])

    def test_a_group_whose_last_thing_went(self):
        keeper = keeper_of({1: "a", 2: "b", 3: "a"})
        keeper.go(1)
        self.assertEqual(keeper.groups(), 2)
        self.assertIsNone(keeper.go(3))
        self.assertEqual(keeper.groups(), 1)
        self.assertEqual(keeper.most(), [2])
        keeper.come(4)
        self.assertEqual(answered(keeper, {2: "b", 4: "a"}), [(2, 4, False)])
        keeper.come(5)
        self.assertEqual(answered(keeper, {2: "b", 4: "a", 5: "c"}), [(2, 5, False), (4, 5, False)])

    def test_all_went(self):
        keeper = keeper_of({1: "a", 2: "b"})
        keeper.go(2)
        keeper.go(1)
        self.assertEqual(told_by(keeper), ([], 0, 1))
        keeper.come(2)
        self.assertIsNone(keeper.wants())
        self.assertEqual(told_by(keeper), ([2], 1, 1))

    def test_a_name_that_went_and_comes_again(self):
        keeper = keeper_of({1: "a", 2: "b", 3: "a"})
        keeper.go(1)
        keeper.come(1)
        self.assertEqual(answered(keeper, {1: "a", 2: "b", 3: "a"}), [(3, 1, True)])
        self.assertEqual(keeper.most(), [3, 1])
        keeper.go(1)
        keeper.come(1)
        self.assertEqual(answered(keeper, {1: "b", 2: "b", 3: "a"}), [(3, 1, False), (2, 1, True)])
        self.assertEqual(keeper.most(), [2, 1])
        keeper.go(3)
        keeper.come(3)
        self.assertEqual(answered(keeper, {1: "b", 2: "b", 3: "c"}), [(2, 3, False)])
        self.assertEqual(told_by(keeper), ([2, 1], 2, 6))

    def test_names_of_0_below_0_and_of_twenty_one_figures(self):
        keeper = keeper_of({0: "a", -1: "b", BIG: "a", -BIG: "a"})
        self.assertEqual(told_by(keeper), ([0, BIG, -BIG], 2, 3))
        keeper.go(0)
        keeper.come(0)
        self.assertEqual(keeper.wants(), (BIG, 0))
        keeper.hear(False)
        self.assertEqual(keeper.wants(), (-1, 0))
        with self.assertRaises(NoAsk):
            keeper.come(5)
        keeper.hear(True)
        self.assertEqual(told_by(keeper), ([], 2, 5))


class Refused(unittest.TestCase):
    def wanting(self):
        """A keeper that is in the midst of its asks of 9."""
        keeper = keeper_of({1: "a", 2: "b", 3: "a"})
        keeper.come(9)
        keeper.hear(False)
        return keeper

    def check_still_wanting(self, keeper):
        self.assertEqual(keeper.wants(), (2, 9))
        keeper.hear(True)
        self.assertEqual(told_by(keeper), ([], 2, 4))
        keeper.go(1)
        self.assertEqual(told_by(keeper), ([2, 9], 2, 4))

    def test_nothing_comes_goes_or_is_told_while_an_answer_is_wanted(self):
        calls = [
            lambda keeper: keeper.come(5),
            lambda keeper: keeper.go(1),
            lambda keeper: keeper.most(),
            lambda keeper: keeper.groups(),
            lambda keeper: keeper.heard(),
        ]
        for at, call in enumerate(calls):
            keeper = self.wanting()
            with self.subTest(at=at):
                with self.assertRaises(NoAsk):
                    call(keeper)
                self.check_still_wanting(keeper)

    def test_no_ask_ahead_of_no_name(self):
        for name in (1, 2, 9):
            keeper = self.wanting()
            with self.assertRaises(NoAsk):
                keeper.come(name)
            self.check_still_wanting(keeper)
        for name in (5, 9):
            keeper = self.wanting()
            with self.assertRaises(NoAsk):
                keeper.go(name)
            self.check_still_wanting(keeper)

    def test_an_answer_that_is_not_asked_for(self):
        for kinds in ({}, {1: "a"}, {1: "a", 2: "b", 3: "a"}):
            for alike in (True, False):
                keeper = keeper_of(kinds)
                before = told_by(keeper)
                with self.assertRaises(NoAsk):
                    keeper.hear(alike)
                self.assertIsNone(keeper.wants())
                self.assertEqual(told_by(keeper), before)

    def test_a_name_that_is_there(self):
        for name in (1, 2, 3):
            keeper = keeper_of({1: "a", 2: "b", 3: "a"})
            with self.assertRaises(NoName):
                keeper.come(name)
            self.assertIsNone(keeper.wants())
            self.assertEqual(told_by(keeper), ([1, 3], 2, 2))

    def test_a_name_that_is_not_there(self):
        for name in (0, 4, -1, BIG):
            keeper = keeper_of({1: "a", 2: "b", 3: "a"})
            with self.assertRaises(NoName):
                keeper.go(name)
            self.assertIsNone(keeper.wants())
            self.assertEqual(told_by(keeper), ([1, 3], 2, 2))

    def test_a_name_that_went(self):
        keeper = keeper_of({1: "a", 2: "b", 3: "a"})
        keeper.go(1)
        with self.assertRaises(NoName):
            keeper.go(1)
        self.assertEqual(told_by(keeper), ([], 2, 2))
        with self.assertRaises(NoName):
            Keeper().go(1)


class Told(unittest.TestCase):
    def test_just_half_one_more_and_none(self):
        kinds = {1: "a", 2: "b"}
        keeper = keeper_of(kinds)
        self.assertEqual(keeper.most(), [])
        for name, kind, due in ((3, "a", [1, 3]), (4, "c", []), (5, "a", [1, 3, 5]), (6, "b", []), (7, "c", [])):
            kinds[name] = kind
            keeper.come(name)
            answered(keeper, kinds)
            self.assertEqual(keeper.most(), due)
        self.assertEqual(keeper_of({1: "a", 2: "b", 3: "c"}).most(), [])

    def test_in_the_order_they_came(self):
        keeper = keeper_of({9: "a", 1: "b", 7: "a", 8: "a", -3: "a"})
        self.assertEqual(keeper.most(), [9, 7, 8, -3])
        keeper.go(7)
        keeper.come(7)
        keeper.hear(True)
        self.assertEqual(keeper.most(), [9, 8, -3, 7])

    def test_behind_each_deed(self):
        keeper = Keeper()
        kinds = {1: "a", 2: "b", 3: "b", 4: "c"}
        deeds = [(1, 1, 0), (2, 2, 1), (3, 2, 3), (4, 3, 5)]
        for name, groups, heard in deeds:
            keeper.come(name)
            answered(keeper, kinds)
            self.assertEqual((keeper.groups(), keeper.heard()), (groups, heard))
        for name, groups in ((3, 3), (1, 2), (4, 1), (2, 0)):
            keeper.go(name)
            self.assertEqual((keeper.groups(), keeper.heard()), (groups, 5))

    def test_the_list_is_the_askers_own(self):
        keeper = keeper_of({1: "a", 2: "a"})
        first = keeper.most()
        second = keeper.most()
        first.append(5)
        second.clear()
        self.assertEqual(keeper.most(), [1, 2])
        third = keeper.most()
        keeper.go(1)
        keeper.come(8)
        keeper.hear(True)
        self.assertEqual(third, [1, 2])
        empty = Keeper().most()
        empty.append(1)
        self.assertEqual(Keeper().most(), [])

    def test_the_kinds_of_values(self):
        keeper = keeper_of({1: "a", 2: "a"})
        self.assertEqual([type(each) for each in told_by(keeper)], [list, int, int])
        keeper.come(3)
        self.assertEqual([type(keeper.wants())] + [type(name) for name in keeper.wants()], [tuple, int, int])

    def test_two_keepers_beside_one_another(self):
        one, other = Keeper(), Keeper()
        one.come(1)
        self.assertEqual(told_by(other), ([], 0, 0))
        other.come(2)
        one.come(2)
        self.assertEqual((one.wants(), other.wants()), ((1, 2), None))
        other.come(1)
        one.hear(True)
        self.assertEqual((one.wants(), other.wants()), (None, (2, 1)))
        other.hear(False)
        self.assertEqual(told_by(one), ([1, 2], 1, 1))
        self.assertEqual(told_by(other), ([], 2, 1))


class TheWhole(unittest.TestCase):
    def run_of_deeds(self, seed, unlike, going):
        """Sixty comings and goings, each held against the words, and against asking anew."""
        mixed = numbers_from(seed)
        keeper, plain = Keeper(), Plain()
        for deed in range(60):
            names = [name for name, kind in plain.there]
            if names and next(mixed) % 10 < going:
                name = names[next(mixed) % len(names)]
                keeper.go(name)
                plain.go(name)
            else:
                free = [name for name in range(-30, 31) if name not in names]
                name, kind = free[next(mixed) % len(free)], next(mixed) % unlike
                kinds = dict(plain.there + [(name, kind)])
                keeper.come(name)
                self.assertEqual(answered(keeper, kinds), plain.come(name, kind))
            self.assertEqual(told_by(keeper), plain.told())
            self.check_as_if_asked_anew(keeper, plain.there)

    def check_as_if_asked_anew(self, keeper, there):
        names = [name for name, kind in there]
        kinds = [kind for name, kind in there]
        self.assertEqual(keeper.most(), [names[thing] for thing in more_than_half(kinds)])
        anew = keeper_of(dict(there))
        self.assertEqual((anew.most(), anew.groups()), (keeper.most(), keeper.groups()))
        self.assertEqual(anew.heard(), len(one_by_one(kinds)[0]))

    def test_sixty_comings_and_goings(self):
        for unlike in (1, 2, 3, 8):
            for going in (0, 3, 5, 7):
                for seed in range(4):
                    self.run_of_deeds(seed + 100 * unlike, unlike, going)

    def test_what_comes_is_asked_as_one_by_one(self):
        for seed in range(5):
            mixed = numbers_from(seed)
            kinds = [next(mixed) % 4 for thing in range(30)]
            keeper, asks = Keeper(), []
            for thing in range(30):
                keeper.come(thing)
                asks += answered(keeper, kinds)
            self.assertEqual(asks, one_by_one(kinds)[0])


if __name__ == "__main__":
    unittest.main()
