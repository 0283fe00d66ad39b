"""[7] whether answers can be right, [8] what they tell, [9] the groups they make."""

import itertools
import unittest

from morethanhalf.answers import can_be, groups_of, tells
from morethanhalf.errors import NoFit, NoThing, TooMany

BIG = 10 ** 30 - 1
WRONG = [(0, 1, True), (1, 2, True), (2, 0, False)]

NO_THING = [
    (3, [(0, 3, True)]),
    (3, [(3, 0, False)]),
    (3, [(-1, 0, True)]),
    (3, [(0, -1, False)]),
    (3, [(0, BIG, True)]),
    (3, [(1, 1, True)]),
    (3, [(1, 1, False)]),
    (3, [(0, 1, True), (2, 2, True)]),
    (0, [(0, 1, True)]),
    (0, [(0, 0, True)]),
    (1, [(0, 1, False)]),
    (-1, []),
    (-BIG, []),
    (-1, [(0, 1, True)]),
    (-3, [(-1, -2, True)]),
]


def numbers_from(seed):
    """A fixed run of numbers that look mixed."""
    while True:
        seed = (seed * 1103515245 + 12345) & 0x7FFFFFFF
        yield seed >> 8


def kinds_that_fit(many, answers):
    for kinds in itertools.product(range(many), repeat=many):
        if all((kinds[i] == kinds[j]) == alike for i, j, alike in answers):
            yield kinds


def plain_tells(many, answers):
    halves = []
    for kinds in kinds_that_fit(many, answers):
        halves.append({thing for thing in range(many) if 2 * kinds.count(kinds[thing]) > many})
    if not halves:
        return None
    if not any(halves):
        return ("none",)
    sure = set.intersection(*halves)
    return ("one", min(sure)) if sure else ("open",)


def plain_groups(many, answers):
    """The groups by walking from thing to thing; None where the answers cannot be right."""
    groups = []
    place = {}
    for thing in range(many):
        if thing in place:
            continue
        group = [thing]
        for here in group:
            for i, j, alike in answers:
                for old, new in ((i, j), (j, i)):
                    if alike and old == here and new not in group:
                        group.append(new)
        for member in group:
            place[member] = len(groups)
        groups.append(sorted(group))
    unlike = {tuple(sorted((place[i], place[j]))) for i, j, alike in answers if not alike}
    if any(p == q for p, q in unlike):
        return None
    return (groups, sorted(unlike))


def all_small_answers():
    """For up to four things each pair left out, alike or unlike."""
    for many in range(5):
        pairs = list(itertools.combinations(range(many), 2))
        for said in itertools.product((None, True, False), repeat=len(pairs)):
            yield many, [(i, j, alike) for (i, j), alike in zip(pairs, said) if alike is not None]


def some_answers(many, count, kinds_many, seed):
    """So many answers that are right of some kinds."""
    mixed = numbers_from(seed)
    kinds = [next(mixed) % kinds_many for thing in range(many)]
    answers = []
    for step in range(count):
        i = next(mixed) % many
        j = (i + 1 + next(mixed) % (many - 1)) % many
        answers.append((i, j, kinds[i] == kinds[j]))
    return answers


class CanBe(unittest.TestCase):
    def test_no_answers(self):
        for many in (0, 1, 2, 200):
            self.assertIs(can_be(many, []), True)

    def test_one_behind_the_other(self):
        self.assertIs(can_be(3, WRONG), False)
        self.assertIs(can_be(3, [(2, 0, False), (1, 2, True), (0, 1, True)]), False)
        self.assertIs(can_be(3, [(0, 1, True), (1, 2, True), (2, 0, True)]), True)
        self.assertIs(can_be(3, [(0, 1, True), (1, 2, False), (2, 0, False)]), True)
        self.assertIs(can_be(3, [(0, 1, False), (1, 2, False), (2, 0, False)]), True)
        self.assertIs(can_be(4, [(3, 2, True), (1, 0, True), (0, 2, True), (1, 3, False)]), False)

    def test_the_same_two_several_times_either_way_about(self):
        self.assertIs(can_be(2, [(0, 1, True), (0, 1, True), (1, 0, True)]), True)
        self.assertIs(can_be(2, [(0, 1, False), (1, 0, False), (0, 1, False)]), True)
        self.assertIs(can_be(2, [(0, 1, True), (0, 1, False)]), False)
        self.assertIs(can_be(2, [(0, 1, False), (1, 0, True)]), False)

    def test_a_long_chain(self):
        chain = [(at + 1, at, True) for at in range(199)]
        self.assertIs(can_be(200, chain), True)
        self.assertIs(can_be(200, chain[::-1] + [(199, 0, False)]), False)
        self.assertIs(can_be(200, chain[:100] + chain[101:] + [(199, 0, False)]), True)

    def test_far_more_things_than_answers(self):
        self.assertIs(can_be(BIG, [(0, BIG - 1, True)]), True)
        self.assertIs(can_be(BIG, [(0, BIG - 1, True), (BIG - 1, 0, False)]), False)

    def test_all_small_answers(self):
        for many, answers in all_small_answers():
            due = any(True for kinds in kinds_that_fit(many, answers))
            self.assertIs(can_be(many, answers), due, (many, answers))

    def test_no_thing(self):
        for many, answers in NO_THING:
            with self.subTest(many=many, answers=answers), self.assertRaises(NoThing):
                can_be(many, answers)

    def test_no_thing_also_where_the_answers_cannot_be_right(self):
        for last in ((0, 3, True), (-1, 0, True), (2, 2, True), (2, 2, False)):
            with self.assertRaises(NoThing):
                can_be(3, WRONG + [last])


class Tells(unittest.TestCase):
    def test_one(self):
        self.assertEqual(tells(1, []), ("one", 0))
        self.assertEqual(tells(2, [(1, 0, True)]), ("one", 0))
        self.assertEqual(tells(3, [(0, 1, False), (1, 2, True)]), ("one", 1))
        self.assertEqual(tells(7, [(6, 5, True), (5, 4, True), (4, 3, True)]), ("one", 3))

    def test_the_least_thing(self):
        self.assertEqual(tells(3, [(2, 1, True)]), ("one", 1))
        self.assertEqual(tells(5, [(4, 2, True), (1, 4, True)]), ("one", 1))

    def test_none(self):
        self.assertEqual(tells(2, [(0, 1, False)]), ("none",))
        self.assertEqual(tells(3, [(0, 1, False), (1, 2, False), (0, 2, False)]), ("none",))
        self.assertEqual(tells(4, [(0, 1, True), (2, 3, True), (1, 2, False)]), ("none",))

    def test_no_things(self):
        self.assertEqual(tells(0, []), ("none",))

    def test_open(self):
        self.assertEqual(tells(2, []), ("open",))
        self.assertEqual(tells(3, [(0, 1, False)]), ("open",))
        self.assertEqual(tells(4, [(0, 1, True)]), ("open",))
        self.assertEqual(tells(7, []), ("open",))

    def test_open_where_a_last_thing_may_be_of_either_kind_or_of_neither(self):
        self.assertEqual(tells(5, [(0, 1, True), (2, 3, True), (1, 2, False)]), ("open",))

    def test_all_small_answers(self):
        for many, answers in all_small_answers():
            due = plain_tells(many, answers)
            if due is None:
                with self.assertRaises(NoFit):
                    tells(many, answers)
            else:
                self.assertEqual(tells(many, answers), due, (many, answers))

    def test_five_things(self):
        for seed in range(60):
            answers = some_answers(5, seed % 8, 2 + seed % 2, seed)
            self.assertEqual(tells(5, answers), plain_tells(5, answers), answers)

    def test_six_and_seven_things(self):
        three_pairs = [(0, 1, True), (2, 3, True), (4, 5, True), (0, 2, False)]
        self.assertEqual(tells(6, three_pairs), ("open",))
        self.assertEqual(tells(6, three_pairs + [(2, 4, False)]), ("open",))
        self.assertEqual(tells(6, three_pairs + [(2, 4, False), (0, 4, False)]), ("none",))
        self.assertEqual(tells(7, three_pairs + [(2, 4, False), (0, 4, True)]), ("one", 0))
        self.assertEqual(tells(7, three_pairs + [(2, 4, False), (0, 4, False)]), ("none",))

    def test_three_hundred_answers(self):
        self.assertEqual(tells(7, [(0, 1, True), (1, 0, True)] * 150), ("open",))
        all_alike = [(at % 6, at % 6 + 1, True) for at in range(300)]
        self.assertEqual(tells(7, all_alike), ("one", 0))
        with self.assertRaises(NoFit):
            tells(7, all_alike[:299] + [(0, 6, False)])

    def test_no_thing(self):
        for many, answers in NO_THING:
            with self.subTest(many=many, answers=answers), self.assertRaises(NoThing):
                tells(many, answers)

    def test_no_thing_ahead_of_no_fit_and_too_many(self):
        for many in (3, 8, 200):
            for last in ((0, many, True), (-1, 0, True), (2, 2, True)):
                with self.assertRaises(NoThing):
                    tells(many, WRONG + [last])
                with self.assertRaises(NoThing):
                    tells(many, [last])

    def test_no_fit_ahead_of_too_many(self):
        for many in (3, 7, 8, 200, BIG):
            with self.assertRaises(NoFit):
                tells(many, WRONG)

    def test_too_many(self):
        for many in (8, 9, 200, BIG):
            for answers in ([], [(0, 1, True)], [(0, 7, False)]):
                with self.assertRaises(TooMany):
                    tells(many, answers)


class GroupsOf(unittest.TestCase):
    def test_no_things_and_no_answers(self):
        self.assertEqual(groups_of(0, []), ([], []))
        self.assertEqual(groups_of(1, []), ([[0]], []))
        self.assertEqual(groups_of(3, []), ([[0], [1], [2]], []))

    def test_the_order_of_groups_and_of_things(self):
        self.assertEqual(groups_of(5, [(4, 1, True), (3, 0, True)]), ([[0, 3], [1, 4], [2]], []))
        self.assertEqual(groups_of(5, [(4, 3, True), (3, 1, True)]), ([[0], [1, 3, 4], [2]], []))
        self.assertEqual(groups_of(5, [(4, 3, True), (2, 1, True), (4, 2, True)]), ([[0], [1, 2, 3, 4]], []))

    def test_the_pairs_each_once_p_below_q_sorted(self):
        answers = [(4, 2, False), (2, 0, False), (0, 2, False), (1, 2, False), (0, 1, True), (3, 0, False)]
        self.assertEqual(groups_of(5, answers), ([[0, 1], [2], [3], [4]], [(0, 1), (0, 2), (1, 3)]))

    def test_group_numbers_and_not_things(self):
        answers = [(0, 1, True), (2, 3, True), (5, 3, False)]
        self.assertEqual(groups_of(6, answers), ([[0, 1], [2, 3], [4], [5]], [(1, 3)]))

    def test_pairs_of_numbers_are_sorted_as_numbers(self):
        answers = [(0, 10, False), (0, 9, False), (11, 2, False), (10, 2, False)]
        self.assertEqual(groups_of(12, answers)[1], [(0, 9), (0, 10), (2, 10), (2, 11)])

    def test_the_kinds_of_values(self):
        told = groups_of(3, [(0, 1, False)])
        self.assertIs(type(told), tuple)
        groups, unlike = told
        self.assertIs(type(groups), list)
        self.assertIs(type(unlike), list)
        self.assertEqual({type(group) for group in groups}, {list})
        self.assertEqual({type(pair) for pair in unlike}, {tuple})

    def test_all_small_answers(self):
        for many, answers in all_small_answers():
            due = plain_groups(many, answers)
            if due is None:
                with self.assertRaises(NoFit):
                    groups_of(many, answers)
            else:
                self.assertEqual(groups_of(many, answers), due, (many, answers))

    def test_more_than_seven_things(self):
        for many in (8, 20, 57, 200):
            for kinds_many in (1, 2, 5, 40):
                for count in (1, many, 300):
                    answers = some_answers(many, count, kinds_many, many + kinds_many)
                    self.assertEqual(groups_of(many, answers), plain_groups(many, answers))

    def test_two_hundred_things_in_a_chain(self):
        chain = [(at, at + 1, True) for at in range(198, -1, -1)]
        self.assertEqual(groups_of(200, chain), ([list(range(200))], []))
        self.assertEqual(groups_of(200, chain[1:] + [(199, 5, False)]), ([list(range(199)), [199]], [(0, 1)]))

    def test_no_thing(self):
        for many, answers in NO_THING:
            with self.subTest(many=many, answers=answers), self.assertRaises(NoThing):
                groups_of(many, answers)

    def test_no_thing_ahead_of_no_fit(self):
        for many in (3, 8, 200):
            for last in ((many, 0, True), (0, -1, False), (1, 1, False)):
                with self.assertRaises(NoThing):
                    groups_of(many, WRONG + [last])

    def test_no_fit(self):
        for many in (3, 8, 200):
            with self.assertRaises(NoFit):
                groups_of(many, WRONG)
            with self.assertRaises(NoFit):
                groups_of(many, [(2, 1, False), (1, 2, True)])


if __name__ == "__main__":
    unittest.main()
