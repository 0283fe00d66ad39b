"""What the tests hold the program against: the document's words gone through case by case."""

import functools
import itertools


def numbers_from(seed):
    """A fixed run of numbers that look mixed."""
    while True:
        seed = (seed * 1103515245 + 12345) & 0x7FFFFFFF
        yield seed >> 8


def mixed_kinds(many, unlike, seed):
    """Kinds of so many things, of at most so many unlike ones."""
    mixed = numbers_from(seed)
    return [next(mixed) % unlike for thing in range(many)]


def every_sort(many, most):
    """Kinds of so many things for each way in which they can be alike, of at most so many kinds."""
    ways = {}
    for kinds in itertools.product(*[range(min(thing + 1, most)) for thing in range(many)]):
        ways.setdefault(tuple(kinds.index(kind) for kind in kinds), list(kinds))
    return list(ways.values())


def half_things(kinds):
    return {thing for thing, kind in enumerate(kinds) if 2 * kinds.count(kind) > len(kinds)}


def most_things(kinds):
    greatest = max((kinds.count(kind) for kind in kinds), default=0)
    return {thing for thing, kind in enumerate(kinds) if kinds.count(kind) == greatest}


def is_right(end, kinds):
    """Whether this end is right of the kind that more than half are."""
    things = half_things(kinds)
    return end[1] in things if end[0] == "one" else not things


def come_to(tree, kinds):
    """The end that right answers lead to."""
    if tree[0] != "ask":
        return tree
    return come_to(tree[3] if kinds[tree[1]] == kinds[tree[2]] else tree[4], kinds)


def ends_right(tree, sorts):
    return all(is_right(come_to(tree, kinds), kinds) for kinds in sorts)


def longest_way(tree):
    return 1 + max(longest_way(tree[3]), longest_way(tree[4])) if tree[0] == "ask" else 0


def fewest_by_trying(sorts, sure_things):
    """The fewest asks at worst till one thing is sure in all sorts that are left, or in none there is one."""
    many = len(sorts[0])
    masks = []
    for i, j in itertools.combinations(range(many), 2):
        masks.append(sum(1 << at for at, kinds in enumerate(sorts) if kinds[i] == kinds[j]))
    sure = [sum(1 << at for at, kinds in enumerate(sorts) if thing in sure_things(kinds)) for thing in range(many)]
    sure.append(sum(1 << at for at, kinds in enumerate(sorts) if not sure_things(kinds)))

    @functools.lru_cache(None)
    def does(left, asks):
        if any(left & ~each == 0 for each in sure):
            return True
        return asks > 0 and any(
            does(left & mask, asks - 1) and does(left & ~mask, asks - 1)
            for mask in masks if left & mask and left & ~mask
        )

    return next(asks for asks in itertools.count() if does((1 << len(sorts)) - 1, asks))


def tree_by(asked, sorts, at=0):
    """The tree that a way of asking makes: asked tells for kinds the asks and what is found."""
    asks, found = asked(sorts[0])
    if at == len(asks):
        return found
    i, j, first = asks[at]
    alike = [kinds for kinds in sorts if kinds[i] == kinds[j]]
    unlike = [kinds for kinds in sorts if kinds[i] != kinds[j]]
    if not alike or not unlike:
        rest = tree_by(asked, sorts, at + 1)
        return ("ask", i, j, rest, ("none",)) if alike else ("ask", i, j, ("none",), rest)
    return ("ask", i, j, tree_by(asked, alike, at + 1), tree_by(asked, unlike, at + 1))


def pairs_of(many):
    return list(itertools.combinations(range(many), 2))


def fit(answers, kinds):
    return all((kinds[i] == kinds[j]) == alike for i, j, alike in answers)


def ways_down(many, paper, ahead=()):
    """All answers on the ways down a paper of the right shape."""
    if paper == ():
        yield list(ahead)
    else:
        for (i, j), (alike, rest) in zip(pairs_of(many), paper):
            yield from ways_down(many, rest, ahead + ((i, j, alike),))


def is_open(many, answers):
    """Whether the answers can be right and leave open which thing it is, or that there is none."""
    things = [half_things(kinds) for kinds in every_sort(many, many) if fit(answers, kinds)]
    return bool(things) and any(things) and not set.intersection(*things)
