"""[17] the liars that fit and who is surely true, [18] asked in a chain."""

import itertools
import unittest

from plain import numbers_from

from morethanhalf.errors import NoFit, NoThing, TooMany
from morethanhalf.tellers import in_a_chain, liars_that_fit, surely_true

BIG = 10 ** 30 - 1

# Of three tellers at most one lies, but each one of these is called a liar by the two others.
ALL_ACCUSED = [(i, j, False) for i in range(3) for j in range(3) if i != j]

NONE_OF_THREE = (-1, -2, 3, 4, BIG, -BIG)


def plain_lists(many, sayings):
    """The lists of liars, gone through by what each teller may be."""
    fitting = []
    for truths in itertools.product((True, False), repeat=many):
        fewer_lie = truths.count(False) < truths.count(True)
        if fewer_lie and all(truths[j] is true for i, j, true in sayings if truths[i]):
            fitting.append([teller for teller in range(many) if not truths[teller]])
    return sorted(fitting)


def plain_chain(truths):
    """The sayings and what is known, written down from the words of [18]."""
    sayings, pile = [], ()
    for new in range(len(truths)):
        if pile:
            so = truths[new]
            sayings.append((pile[-1], new, so if truths[pile[-1]] else not so))
            pile = pile + (new,) if sayings[-1][2] else pile[:-1]
        else:
            pile = (new,)
    known = {pile[-1]: True}
    for other in range(len(truths)):
        if other != pile[-1]:
            sayings.append((pile[-1], other, truths[other]))
            known[other] = truths[other]
    return (sayings, [known[teller] for teller in range(len(truths))])


def mixed_sayings(many, count, seed):
    """So many sayings, mixed, of which most are so where the last ones are the liars."""
    mixed = numbers_from(seed)
    sayings = []
    while len(sayings) < count:
        i, j = next(mixed) % many, next(mixed) % many
        if i != j:
            true = j < many - (many - 1) // 2
            sayings.append((i, j, true if next(mixed) % 4 else not true))
    return sayings


def mixed_truths(many, liars, seed):
    """The truths of so many tellers with so many liars among them."""
    mixed = numbers_from(seed)
    order = sorted(range(many), key=lambda teller: next(mixed))
    return [teller not in order[:liars] for teller in range(many)]


def all_truths(most):
    """All lists of truths of at most so many tellers of whom fewer than half lie."""
    for many in range(1, most + 1):
        for truths in itertools.product((True, False), repeat=many):
            if 2 * truths.count(False) < many:
                yield list(truths)


class LiarsThatFit(unittest.TestCase):
    def test_one_teller_without_a_saying(self):
        self.assertEqual(liars_that_fit(1, []), [[]])

    def test_fewer_than_half_of_one_to_ten(self):
        for many in range(1, 11):
            told = liars_that_fit(many, [])
            due = [list(liars) for some in range((many + 1) // 2) for liars in itertools.combinations(range(many), some)]
            self.assertEqual(told, sorted(due), many)
            self.assertEqual(max(len(liars) for liars in told), (many - 1) // 2)

    def test_the_order_of_the_lists(self):
        due = [[], [0], [0, 1], [0, 2], [0, 3], [0, 4], [1], [1, 2], [1, 3], [1, 4], [2], [2, 3], [2, 4]]
        self.assertEqual(liars_that_fit(5, []), due + [[3], [3, 4], [4]])

    def test_what_a_true_teller_says_is_so(self):
        self.assertEqual(liars_that_fit(3, [(0, 1, True)]), [[], [0], [2]])
        self.assertEqual(liars_that_fit(3, [(0, 1, False)]), [[0], [1]])
        self.assertEqual(liars_that_fit(2, [(0, 1, True)]), [[]])

    def test_what_a_liar_says_may_be_so_and_may_not(self):
        self.assertEqual(liars_that_fit(3, [(0, 1, True), (1, 0, False)]), [[0]])
        self.assertEqual(liars_that_fit(3, [(0, 1, False), (1, 0, False)]), [[0], [1]])
        self.assertEqual(liars_that_fit(3, [(0, 1, True), (1, 2, True), (2, 0, False)]), [[0]])
        self.assertEqual(liars_that_fit(3, [(0, 1, True), (0, 1, False)]), [[0]])

    def test_no_list_that_fits(self):
        self.assertEqual(liars_that_fit(3, ALL_ACCUSED), [])
        self.assertEqual(liars_that_fit(2, [(0, 1, False)]), [])
        self.assertEqual(liars_that_fit(3, [(0, 1, True), (0, 1, False), (2, 0, True)]), [])

    def test_all_small_sayings(self):
        for many in (2, 3):
            pairs = list(itertools.permutations(range(many), 2))
            for said in itertools.product((None, True, False), repeat=len(pairs)):
                sayings = [pair + (true,) for pair, true in zip(pairs, said) if true is not None]
                self.assertEqual(liars_that_fit(many, sayings), plain_lists(many, sayings), sayings)

    def test_up_to_ten_tellers_and_thirty_one_sayings(self):
        for many in range(2, 11):
            for count in (0, 1, 3, many, 2 * many, 31):
                for seed in range(3):
                    sayings = mixed_sayings(many, count, seed + 31 * count)
                    self.assertEqual(liars_that_fit(many, sayings), plain_lists(many, sayings), sayings)

    def test_sayings_of_a_chain(self):
        for truths in all_truths(7):
            sayings, known = in_a_chain(truths)
            liars = [teller for teller, true in enumerate(truths) if not true]
            self.assertEqual(liars_that_fit(len(truths), sayings), [liars], truths)

    def test_the_kinds_of_values(self):
        for told in (liars_that_fit(3, []), liars_that_fit(1, []), liars_that_fit(2, [(0, 1, False)])):
            self.assertIs(type(told), list)
            self.assertTrue({type(liars) for liars in told} <= {list})
            self.assertTrue({type(liar) for liars in told for liar in liars} <= {int})


class SurelyTrue(unittest.TestCase):
    def test_one_teller_without_a_saying(self):
        self.assertEqual(surely_true(1, []), [0])

    def test_two_tellers_cannot_lie(self):
        self.assertEqual(surely_true(2, []), [0, 1])

    def test_nobody_surely(self):
        self.assertEqual(surely_true(3, []), [])
        self.assertEqual(surely_true(10, []), [])

    def test_some(self):
        self.assertEqual(surely_true(3, [(0, 1, True)]), [1])
        self.assertEqual(surely_true(3, [(0, 1, False)]), [2])
        self.assertEqual(surely_true(3, [(2, 1, False), (1, 2, True)]), [0, 2])

    def test_all_but_the_liar(self):
        sayings = [(0, 1, True), (1, 2, True), (2, 3, False), (3, 0, False)]
        self.assertEqual(surely_true(4, sayings), [0, 1, 2])

    def test_no_list_that_fits(self):
        for many, sayings in ((3, ALL_ACCUSED), (2, [(0, 1, False)]), (2, [(1, 0, True), (1, 0, False)])):
            with self.assertRaises(NoFit):
                surely_true(many, sayings)

    def test_true_in_all_lists_that_fit(self):
        for many in range(1, 11):
            for count in (0, 1, 2, many, 31) if many > 1 else (0,):
                for seed in range(4):
                    sayings = mixed_sayings(many, count, seed + 17 * count)
                    lists = plain_lists(many, sayings)
                    if lists:
                        due = [teller for teller in range(many) if not any(teller in liars for liars in lists)]
                        self.assertEqual(surely_true(many, sayings), due, sayings)
                    else:
                        with self.assertRaises(NoFit):
                            surely_true(many, sayings)

    def test_the_kinds_of_values(self):
        for told in (surely_true(3, []), surely_true(3, [(0, 1, True)])):
            self.assertIs(type(told), list)
            self.assertTrue({type(teller) for teller in told} <= {int})


class TheRefusals(unittest.TestCase):
    def check(self, error, many, sayings):
        for call in (liars_that_fit, surely_true):
            with self.subTest(call=call.__name__, many=many, sayings=sayings), self.assertRaises(error):
                call(many, sayings)

    def test_no_tellers(self):
        for many in (0, -1, -2, -11, -BIG):
            for sayings in ([], [(0, 1, True)], [(-1, -2, False)]):
                self.check(NoThing, many, sayings)

    def test_a_teller_that_is_none(self):
        for none in NONE_OF_THREE:
            for true in (True, False):
                self.check(NoThing, 3, [(none, 0, true)])
                self.check(NoThing, 3, [(0, none, true)])
                self.check(NoThing, 3, [(none, none, true)])
                self.check(NoThing, 3, [(none, none + 1, true)])
                self.check(NoThing, 3, [(0, 1, True), (1, 2, False), (2, none, true)])

    def test_a_teller_asked_of_itself(self):
        for true in (True, False):
            self.check(NoThing, 3, [(1, 1, true)])
            self.check(NoThing, 1, [(0, 0, true)])
            self.check(NoThing, 3, [(0, 1, True), (2, 2, true)])

    def test_no_thing_ahead_of_no_fit(self):
        self.check(NoThing, 3, ALL_ACCUSED + [(0, 3, True)])
        self.check(NoThing, 3, ALL_ACCUSED + [(0, 0, True)])

    def test_too_many(self):
        for many in (11, 12, 200, BIG):
            self.check(TooMany, many, [])
            self.check(TooMany, many, [(0, 10, True), (10, 0, False)])

    def test_too_many_ahead_of_no_fit(self):
        pairs = itertools.permutations(range(11), 2)
        self.check(TooMany, 11, [(i, j, False) for i, j in pairs])

    def test_no_thing_ahead_of_too_many(self):
        for many in (11, 200, BIG):
            for saying in ((0, many, True), (many, 0, True), (-1, 0, False), (0, -1, False), (5, 5, True)):
                self.check(NoThing, many, [saying])
                self.check(NoThing, many, [(0, 1, True), saying])


class InAChain(unittest.TestCase):
    def test_one_teller(self):
        self.assertEqual(in_a_chain([True]), ([], [True]))

    def test_all_true(self):
        self.assertEqual(in_a_chain([True, True]), ([(0, 1, True), (1, 0, True)], [True, True]))
        sayings = [(0, 1, True), (1, 2, True), (2, 0, True), (2, 1, True)]
        self.assertEqual(in_a_chain([True] * 3), (sayings, [True] * 3))

    def test_liars_ahead(self):
        # Liars say of each other that they tell the truth, and are taken away by the true ones behind.
        sayings = [(0, 1, True), (1, 2, False), (0, 3, False)]
        sayings += [(4, 0, False), (4, 1, False), (4, 2, True), (4, 3, True)]
        self.assertEqual(in_a_chain([False, False, True, True, True]), (sayings, [False, False, True, True, True]))

    def test_liars_behind(self):
        sayings = [(0, 1, True), (1, 2, True), (2, 3, False), (1, 4, False)]
        sayings += [(0, 1, True), (0, 2, True), (0, 3, False), (0, 4, False)]
        self.assertEqual(in_a_chain([True, True, True, False, False]), (sayings, [True, True, True, False, False]))

    def test_by_turns(self):
        sayings = [(0, 1, False), (2, 3, False), (4, 0, True), (4, 1, False), (4, 2, True), (4, 3, False)]
        self.assertEqual(in_a_chain([True, False] * 2 + [True]), (sayings, [True, False, True, False, True]))

    def test_the_pile_gets_empty_and_is_laid_on_again(self):
        sayings = [(0, 1, False), (2, 3, True), (3, 0, False), (3, 1, True), (3, 2, True)]
        self.assertEqual(in_a_chain([False, True, True, True]), (sayings, [False, True, True, True]))
        sayings = [(0, 1, False), (2, 3, False), (4, 0, False), (4, 1, True), (4, 2, False), (4, 3, True)]
        self.assertEqual(in_a_chain([False, True, False, True, True]), (sayings, [False, True, False, True, True]))

    def test_the_upmost_asked_also_about_such_as_it_was_asked_about(self):
        sayings, known = in_a_chain([True, True, False])
        self.assertEqual(sayings, [(0, 1, True), (1, 2, False), (0, 1, True), (0, 2, False)])
        self.assertEqual(known, [True, True, False])

    def test_half_that_lie_and_more(self):
        for truths in ([], [False], [True, False], [False, True], [False, False], [True, False, False]):
            with self.assertRaises(NoFit):
                in_a_chain(truths)
        for many in range(9):
            for truths in itertools.product((True, False), repeat=many):
                if 2 * truths.count(False) >= many:
                    with self.assertRaises(NoFit):
                        in_a_chain(list(truths))
        for liars in (100, 101, 200):
            with self.assertRaises(NoFit):
                in_a_chain(mixed_truths(200, liars, liars))

    def test_as_the_words_are(self):
        for truths in all_truths(9):
            self.assertEqual(in_a_chain(truths), plain_chain(truths), truths)

    def test_what_is_known_is_so_in_fewer_sayings_than_twice_the_tellers(self):
        for truths in all_truths(9):
            sayings, known = in_a_chain(truths)
            self.assertEqual(known, truths)
            self.assertLess(len(sayings), 2 * len(truths))

    def test_two_hundred_tellers(self):
        some = [mixed_truths(200, liars, seed) for liars in (0, 1, 50, 98, 99) for seed in range(3)]
        some += [[False] * 99 + [True] * 101, [True] * 101 + [False] * 99, [True, False] * 99 + [True, True]]
        for truths in some:
            told = in_a_chain(truths)
            self.assertEqual(told, plain_chain(truths))
            self.assertEqual(told[1], truths)
            self.assertLess(len(told[0]), 400)

    def test_the_kinds_of_values(self):
        for truths in ([True], [True, False, True], [False, True, True]):
            told = in_a_chain(truths)
            self.assertEqual([type(told), type(told[0]), type(told[1])], [tuple, list, list])
            for saying in told[0]:
                self.assertEqual([type(saying)] + [type(each) for each in saying], [tuple, int, int, bool])
            self.assertEqual({type(true) for true in told[1]}, {bool})


if __name__ == "__main__":
    unittest.main()
