"""Kinds of things that are seen, and all sorts that there can be."""

from morethanhalf.errors import TooMany

MOST_THINGS = 7


def alike_things(kinds):
    """The things of each kind, rising, the kinds by their first things."""
    by_kind = {}
    for thing, kind in enumerate(kinds):
        by_kind.setdefault(kind, []).append(thing)
    return list(by_kind.values())


def more_than_half(kinds):
    """The things of the kind that more than half are, [] where there is none."""
    for things in alike_things(kinds):
        if 2 * len(things) > len(kinds):
            return things
    return []


def most_are(kinds):
    """The things of each kind that no other kind has more of."""
    groups = alike_things(kinds)
    greatest = max([len(things) for things in groups], default=0)
    return [things for things in groups if len(things) == greatest]


def sorts_of(kinds):
    """The kinds told anew, numbered in the order of their first things."""
    numbers = {}
    for kind in kinds:
        numbers.setdefault(kind, len(numbers))
    return [numbers[kind] for kind in kinds]


def one_thing_more(sort, most):
    """The sorts that begin with this one and have one thing more, sorted."""
    used = max(sort, default=-1) + 1
    return [sort + [number] for number in range(min(used + 1, most))]


def all_sorts(many, most):
    """All sorts of so many things of at most so many kinds, sorted."""
    if many < 0 or many > MOST_THINGS:
        raise TooMany(f"sorts are told of 0 to {MOST_THINGS} things, not of {many}")
    sorts = [[]]
    for step in range(many):
        # Each sort's longer ones are rising and stand together, so the whole stays sorted.
        sorts = [longer for sort in sorts for longer in one_thing_more(sort, most)]
    return sorts
