"""The kind that most are: asked one by one, told by answers, and with the fewest asks at worst."""

from morethanhalf.answers import sorts_that_fit
from morethanhalf.asks import ask
from morethanhalf.bounds import check_many
from morethanhalf.ends import common_end, most_ends
from morethanhalf.kinds import all_sorts
from morethanhalf.search import fewest_asks

MOST_SEARCHED = 4


def group_for(kinds, asks, groups, thing):
    """The group that the thing is alike with, a new one where there is none."""
    for group in groups:
        if ask(kinds, asks, group[0], thing):
            return group
    groups.append([])
    return groups[-1]


def one_by_one(kinds):
    """Asked one by one: the asks, and the things of the first of the greatest groups."""
    asks, groups = [], []
    for thing in range(len(kinds)):
        group = group_for(kinds, asks, groups, thing)
        group.append(thing)
    return (asks, max(groups, key=len, default=[]))


def tells_most(many, answers):
    """What the answers tell of the kinds that most are."""
    return common_end([most_ends(sort) for sort in sorts_that_fit(many, answers)])


def fewest_most(many):
    """The fewest asks at worst to find a thing of a kind that no other has more of."""
    check_many(many, 1, MOST_SEARCHED)
    sorts = all_sorts(many, many)
    asks, tree = fewest_asks(many, sorts, [most_ends(sort) for sort in sorts])
    return asks
