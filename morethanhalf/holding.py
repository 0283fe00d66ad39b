"""Holding papers: answers to all asks that leave it open, so that so few asks never do."""

from morethanhalf.answers import can_be, tells
from morethanhalf.asks import pairs_of
from morethanhalf.bounds import check_many
from morethanhalf.ends import OPEN
from morethanhalf.trees import fewest

LEAST_THINGS = 2
GREATEST_THINGS = 4


def is_row(row):
    """Whether this is an answer with something behind it."""
    return isinstance(row, tuple) and len(row) == 2 and isinstance(row[0], bool)


def is_paper_of(pairs, paper):
    """Whether this is a list of an answer for each of the pairs."""
    return isinstance(paper, list) and len(paper) == len(pairs) and all([is_row(row) for row in paper])


def is_let_by(many, answers, asks, paper):
    """Whether the paper is let by behind the answers that lead to it."""
    if asks < 0 or not can_be(many, answers):
        return False
    if asks == 0:
        return isinstance(paper, tuple) and len(paper) == 0 and tells(many, answers) == OPEN
    pairs = pairs_of(many)
    if not is_paper_of(pairs, paper):
        return False
    for (i, j), (alike, rest) in zip(pairs, paper):
        if not is_let_by(many, answers + [(i, j, alike)], asks - 1, rest):
            return False
    return True


def holds(many, asks, paper):
    """Whether this is a holding paper for so many things and asks that is let by."""
    check_many(many, LEAST_THINGS, GREATEST_THINGS)
    return is_let_by(many, [], asks, paper)


def row_behind(many, answers, asks, i, j):
    """An answer to this ask with a paper that is let by behind it, None where there is none."""
    for alike in (True, False):
        rest = paper_behind(many, answers + [(i, j, alike)], asks - 1)
        if rest is not None:
            return (alike, rest)
    return None


def paper_behind(many, answers, asks):
    """A paper that is let by behind these answers, None where there is none."""
    if not can_be(many, answers):
        return None
    if asks == 0:
        return () if tells(many, answers) == OPEN else None
    paper = []
    for i, j in pairs_of(many):
        row = row_behind(many, answers, asks, i, j)
        if row is None:
            return None
        paper.append(row)
    return paper


def holding_paper(many):
    """A holding paper that is let by for one ask fewer than the fewest."""
    check_many(many, LEAST_THINGS, GREATEST_THINGS)
    asks, tree = fewest(many)
    return paper_behind(many, [], asks - 1)
