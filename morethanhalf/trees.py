"""Trees of asks: whether one finds out, its depth, and one with the fewest asks at worst."""

from morethanhalf.bounds import check_many
from morethanhalf.ends import half_ends
from morethanhalf.kinds import MOST_THINGS, all_sorts
from morethanhalf.search import fewest_asks

MOST_SEARCHED = 5
MOST_SEARCHED_OF_TWO = 7


def branches(tree):
    """The trees that an ask goes on with, none of an end."""
    if tree[0] != "ask":
        return []
    alike, unlike = tree[3:]
    # One tree on both sides is gone into once: else trees of shared parts would take forever.
    return [alike] if alike == unlike else [alike, unlike]


def names_things(many, tree):
    """Whether the things of this end or ask are there, and those of an ask are two."""
    things = tree[1:3]
    if tree[0] == "ask" and things[0] == things[1]:
        return False
    return all([0 <= thing < many for thing in things])


def names_things_throughout(many, tree):
    """Whether each end and ask in the tree names things that are there."""
    level = [tree]
    while level:
        if not all([names_things(many, part) for part in level]):
            return False
        level = [branch for part in level for branch in branches(part)]
    return True


def end_for(tree, kinds):
    """The end that right answers lead to."""
    while tree[0] == "ask":
        i, j, alike, unlike = tree[1:]
        tree = alike if kinds[i] == kinds[j] else unlike
    return tree


def finds_out(many, tree):
    """Whether the tree comes to a right end, whatever the kinds are."""
    check_many(many, 0, MOST_THINGS)
    if not names_things_throughout(many, tree):
        return False
    return all([end_for(tree, sort) in half_ends(sort) for sort in all_sorts(many, many)])


def depth(tree):
    """How many asks are on the longest way."""
    asks = 0
    level = branches(tree)
    while level:
        asks += 1
        level = [branch for part in level for branch in branches(part)]
    return asks


def fewest_of(many, most):
    """The fewest asks at worst where there are at most so many kinds, with a tree."""
    sorts = all_sorts(many, most)
    return fewest_asks(many, sorts, [half_ends(sort) for sort in sorts])


def fewest(many):
    """The fewest asks at worst, with a tree that finds out and has this depth."""
    check_many(many, 1, MOST_SEARCHED)
    return fewest_of(many, many)


def fewest_of_two(many):
    """The fewest asks at worst where there are at most two kinds, with a tree."""
    check_many(many, 1, MOST_SEARCHED_OF_TWO)
    return fewest_of(many, 2)
