"""Ends of asking: what may rightly be told once the asks are done."""

from morethanhalf.kinds import more_than_half, most_are

OPEN = ("open",)


def half_ends(kinds):
    """The ends that are right of the kind that more than half are, by their things."""
    things = more_than_half(kinds)
    return [("one", thing) for thing in things] if things else [("none",)]


def most_ends(kinds):
    """The ends that are right of the kinds that most are, by their things."""
    things = sorted([thing for group in most_are(kinds) for thing in group])
    return [("one", thing) for thing in things]


def common_end(ends):
    """The first end that is in each of the lists of ends, open where there is none."""
    for end in ends[0]:
        if all([end in others for others in ends]):
            return end
    return OPEN
