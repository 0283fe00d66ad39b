"""Tellers of whom fewer than half lie: who the liars may be, and how all are found out in a chain."""

from morethanhalf.answers import check_things
from morethanhalf.bounds import check_many
from morethanhalf.errors import NoFit

MOST_TELLERS = 10


def lists_of_liars(many):
    """All lists of fewer than half of the tellers, each rising, sorted."""
    lists = [[]]
    for teller in range(many):
        lists = lists + [liars + [teller] for liars in lists if 2 * (len(liars) + 1) < many]
    return sorted(lists)


def fits_liars(liars, sayings):
    """Whether all that the others say is so where these are the liars."""
    for i, j, true in sayings:
        if i not in liars and (j not in liars) != true:
            return False
    return True


def liars_that_fit(many, sayings):
    """All lists of liars, each rising, sorted, that the sayings fit."""
    # A saying names two tellers just as an answer names two things.
    check_things(many, sayings)
    check_many(many, 1, MOST_TELLERS)
    return [liars for liars in lists_of_liars(many) if fits_liars(liars, sayings)]


def surely_true(many, sayings):
    """The tellers, rising, that are true whichever list of liars that fits is right."""
    lists = liars_that_fit(many, sayings)
    if not lists:
        raise NoFit("no list of liars fits the sayings")
    return [teller for teller in range(many) if all([teller not in liars for liars in lists])]


def says_true(truths, sayings, i, j):
    """Whether teller i says that j tells the truth; the saying is put to the sayings."""
    # A liar says the contrary, so of another liar that it tells the truth.
    true = truths[i] == truths[j]
    sayings.append((i, j, true))
    return true


def upmost_at_last(truths, sayings):
    """Lay the tellers on a pile in order: the one that is upmost at last."""
    pile = []
    for teller in range(len(truths)):
        if not pile or says_true(truths, sayings, pile[-1], teller):
            pile.append(teller)
        else:
            pile.pop()
    return pile[-1]


def in_a_chain(truths):
    """Asked in a chain: the sayings, and what each teller is known to be at last."""
    if 2 * truths.count(False) >= len(truths):
        raise NoFit("fewer than half must lie")
    sayings, known = [], []
    upmost = upmost_at_last(truths, sayings)
    for teller in range(len(truths)):
        known.append(teller == upmost or says_true(truths, sayings, upmost, teller))
    return (sayings, known)
