"""Asks of two things."""


def pairs_of(many):
    """All pairs of unlike things, the lesser one first, in order."""
    return [(i, j) for i in range(many) for j in range(i + 1, many)]


def ask(kinds, asks, i, j):
    """Whether two things are alike; the answer is put to the asks."""
    alike = kinds[i] == kinds[j]
    asks.append((i, j, alike))
    return alike
