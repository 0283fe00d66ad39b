"""[3] and the interface: the classes of the refusals."""

import unittest

from morethanhalf import errors
from morethanhalf.answers import can_be, groups_of, tells
from morethanhalf.desk import Desk
from morethanhalf.errors import HalfError
from morethanhalf.holding import holding_paper, holds
from morethanhalf.kept import Keeper
from morethanhalf.kinds import all_sorts
from morethanhalf.most import fewest_most, tells_most
from morethanhalf.tellers import in_a_chain, liars_that_fit, surely_true
from morethanhalf.texts import read_tree
from morethanhalf.trees import fewest, fewest_of_two, finds_out

NAMES = ["NoThing", "NoFit", "TooMany", "NoName", "NoAsk", "NoText", "NoForm", "NoneYet"]

WRONG = [(0, 1, True), (1, 2, True), (2, 0, False)]



def desk_of(*rows):
    desk = Desk()
    for row in rows:
        desk.say(row)
    return desk


def keeper_of(*names):
    """A keeper that these came to, the last of them not answered for."""
    keeper = Keeper()
    for name in names:
        while keeper.wants() is not None:
            keeper.hear(False)
        keeper.come(name)
    return keeper


REFUSALS = [
    ("TooMany", lambda: all_sorts(8, 8)),
    ("TooMany", lambda: all_sorts(-1, 3)),
    ("TooMany", lambda: tells(8, [])),
    ("NoThing", lambda: can_be(-1, [])),
    ("NoThing", lambda: can_be(2, [(0, 2, True)])),
    ("NoThing", lambda: can_be(2, [(1, 1, True)])),
    ("NoThing", lambda: tells(-1, [])),
    ("NoThing", lambda: groups_of(-1, [])),
    ("NoFit", lambda: tells(3, WRONG)),
    ("NoFit", lambda: groups_of(3, WRONG)),
    ("NoThing", lambda: finds_out(-1, ("none",))),
    ("TooMany", lambda: finds_out(8, ("none",))),
    ("NoThing", lambda: fewest(0)),
    ("TooMany", lambda: fewest(6)),
    ("NoThing", lambda: fewest_of_two(0)),
    ("TooMany", lambda: fewest_of_two(8)),
    ("NoThing", lambda: holds(1, 0, ())),
    ("TooMany", lambda: holds(5, 0, ())),
    ("NoThing", lambda: holding_paper(1)),
    ("TooMany", lambda: holding_paper(5)),
    ("NoThing", lambda: tells_most(-1, [])),
    ("NoThing", lambda: tells_most(8, WRONG + [(8, 0, True)])),
    ("NoFit", lambda: tells_most(8, WRONG)),
    ("TooMany", lambda: tells_most(8, [])),
    ("NoThing", lambda: fewest_most(0)),
    ("TooMany", lambda: fewest_most(5)),
    ("NoThing", lambda: liars_that_fit(0, [])),
    ("NoThing", lambda: liars_that_fit(11, [(11, 0, True)])),
    ("TooMany", lambda: liars_that_fit(11, [])),
    ("NoThing", lambda: surely_true(-1, [])),
    ("NoThing", lambda: surely_true(3, [(1, 1, True)])),
    ("TooMany", lambda: surely_true(11, [])),
    ("NoFit", lambda: surely_true(2, [(0, 1, False)])),
    ("NoFit", lambda: in_a_chain([])),
    ("NoFit", lambda: in_a_chain([True, False])),
    ("NoAsk", lambda: Keeper().hear(True)),
    ("NoName", lambda: Keeper().go(1)),
    ("NoName", lambda: keeper_of(1).come(1)),
    ("NoAsk", lambda: keeper_of(1, 2).come(1)),
    ("NoAsk", lambda: keeper_of(1, 2).come(3)),
    ("NoAsk", lambda: keeper_of(1, 2).go(1)),
    ("NoAsk", lambda: keeper_of(1, 2).go(3)),
    ("NoAsk", lambda: keeper_of(1, 2).most()),
    ("NoAsk", lambda: keeper_of(1, 2).groups()),
    ("NoAsk", lambda: keeper_of(1, 2).heard()),
    ("NoText", lambda: read_tree("")),
    ("NoText", lambda: read_tree("i00")),
    ("NoText", lambda: read_tree("0?1(i0:none")),
    ("NoText", lambda: read_tree("none ")),
    ("NoForm", lambda: Desk().say("")),
    ("NoForm", lambda: Desk().say(None)),
    ("NoForm", lambda: Desk().say("things 8")),
    ("NoneYet", lambda: Desk().say("fewest")),
    ("NoneYet", lambda: Desk().say("0 0 like")),
    ("NoneYet", lambda: Desk().say("tree ")),
    ("NoText", lambda: desk_of("things 2").say("tree ")),
    ("NoThing", lambda: desk_of("things 2").say("0 2 like")),
    ("NoThing", lambda: desk_of("things 2").say("1 1 like")),
    ("NoFit", lambda: desk_of("things 2", "0 1 like").say("0 1 unlike")),
]


class TheClasses(unittest.TestCase):
    def test_half_error_is_a_value_error(self):
        self.assertEqual(HalfError.__bases__, (ValueError,))

    def test_each_class_stands_straight_under_half_error(self):
        for name in NAMES:
            self.assertEqual(getattr(errors, name).__bases__, (HalfError,), name)

    def test_none_stands_under_another(self):
        for name in NAMES:
            for other in NAMES:
                under = issubclass(getattr(errors, name), getattr(errors, other))
                self.assertEqual(under, name == other, (name, other))


class TheRefusals(unittest.TestCase):
    def test_each_refusal_is_of_its_one_class(self):
        for at, (name, call) in enumerate(REFUSALS):
            with self.subTest(at=at, name=name):
                with self.assertRaises(ValueError) as caught:
                    call()
                self.assertIsInstance(caught.exception, HalfError)
                of = [each for each in NAMES if isinstance(caught.exception, getattr(errors, each))]
                self.assertEqual(of, [name])

    def test_each_class_is_refused_with(self):
        self.assertEqual({name for name, call in REFUSALS}, set(NAMES))


if __name__ == "__main__":
    unittest.main()
