"""[3] and the interface: the classes of the refusals."""

import unittest

from morethanhalf import errors
from morethanhalf.answers import can_be, groups_of, tells
from morethanhalf.errors import HalfError
from morethanhalf.holding import holding_paper, holds
from morethanhalf.kinds import all_sorts
from morethanhalf.most import fewest_most, tells_most
from morethanhalf.trees import fewest, fewest_of_two, finds_out

NAMES = ["NoThing", "NoFit", "TooMany", "NoName", "NoAsk", "NoText", "NoForm", "NoneYet"]

WRONG = [(0, 1, True), (1, 2, True), (2, 0, False)]

REFUSALS = [
    ("TooMany", lambda: all_sorts(8, 8)),
    ("TooMany", lambda: all_sorts(-1, 3)),
    ("TooMany", lambda: tells(8, [])),
    ("NoThing", lambda: can_be(-1, [])),
    ("NoThing", lambda: can_be(2, [(0, 2, True)])),
    ("NoThing", lambda: can_be(2, [(1, 1, True)])),
    ("NoThing", lambda: tells(-1, [])),
    ("NoThing", lambda: groups_of(-1, [])),
    ("NoFit", lambda: tells(3, WRONG)),
    ("NoFit", lambda: groups_of(3, WRONG)),
    ("NoThing", lambda: finds_out(-1, ("none",))),
    ("TooMany", lambda: finds_out(8, ("none",))),
    ("NoThing", lambda: fewest(0)),
    ("TooMany", lambda: fewest(6)),
    ("NoThing", lambda: fewest_of_two(0)),
    ("TooMany", lambda: fewest_of_two(8)),
    ("NoThing", lambda: holds(1, 0, ())),
    ("TooMany", lambda: holds(5, 0, ())),
    ("NoThing", lambda: holding_paper(1)),
    ("TooMany", lambda: holding_paper(5)),
    ("NoThing", lambda: tells_most(-1, [])),
    ("NoThing", lambda: tells_most(8, WRONG + [(8, 0, True)])),
    ("NoFit", lambda: tells_most(8, WRONG)),
    ("TooMany", lambda: tells_most(8, [])),
    ("NoThing", lambda: fewest_most(0)),
    ("TooMany", lambda: fewest_most(5)),
]


class TheClasses(unittest.TestCase):
    def test_half_error_is_a_value_error(self):
        self.assertEqual(HalfError.__bases__, (ValueError,))

    def test_each_class_stands_straight_under_half_error(self):
        for name in NAMES:
            self.assertEqual(getattr(errors, name).__bases__, (HalfError,), name)

    def test_none_stands_under_another(self):
        for name in NAMES:
            for other in NAMES:
                under = issubclass(getattr(errors, name), getattr(errors, other))
                self.assertEqual(under, name == other, (name, other))


class TheRefusals(unittest.TestCase):
    def test_each_refusal_is_of_its_one_class(self):
        for at, (name, call) in enumerate(REFUSALS):
            with self.subTest(at=at, name=name):
                with self.assertRaises(ValueError) as caught:
                    call()
                self.assertIsInstance(caught.exception, HalfError)
                of = [each for each in NAMES if isinstance(caught.exception, getattr(errors, each))]
                self.assertEqual(of, [name])


if __name__ == "__main__":
    unittest.main()
