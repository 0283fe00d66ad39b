"""Answers of who is alike: whether they can be right, and what they tell."""

from morethanhalf.ends import common_end, half_ends
from morethanhalf.errors import NoFit, NoThing
from morethanhalf.kinds import alike_things, all_sorts, sorts_of


def check_things(many, answers):
    """Refuse answers that are not each of two unlike things of so many."""
    if many < 0:
        raise NoThing(f"there cannot be {many} things")
    for i, j, alike in answers:
        if not (0 <= i < many and 0 <= j < many):
            raise NoThing(f"of {i} and {j} one is none of {many} things")
        if i == j:
            raise NoThing(f"thing {i} is likened with itself")


def moved(homes, old, new):
    """The homes once all that are at home with old are so with new."""
    return {thing: new if home == old else home for thing, home in homes.items()}


def homes_of(answers):
    """For each thing that answers name, a thing of its group, one for the whole group."""
    # Only named things are kept, for many may be far greater than the answers reach.
    homes = {}
    for i, j, alike in answers:
        homes.setdefault(i, i)
        homes.setdefault(j, j)
        if alike:
            homes = moved(homes, homes[j], homes[i])
    return homes


def can_be(many, answers):
    """Whether there are kinds of so many things that all the answers fit."""
    check_things(many, answers)
    homes = homes_of(answers)
    return all([alike or homes[i] != homes[j] for i, j, alike in answers])


def check_right(many, answers):
    """Refuse answers of no such things, then answers that cannot be right."""
    if not can_be(many, answers):
        raise NoFit("the answers cannot all be right")


def fits(kinds, answers):
    """Whether each answer tells right of these kinds."""
    for i, j, alike in answers:
        if (kinds[i] == kinds[j]) != alike:
            return False
    return True


def sorts_that_fit(many, answers):
    """All sorts that the answers fit, of answers that can be right and few enough things."""
    check_right(many, answers)
    # all_sorts refuses too many things, and must stand behind the other refusals.
    return [sort for sort in all_sorts(many, many) if fits(sort, answers)]


def tells(many, answers):
    """What the answers tell of the kind that more than half are."""
    return common_end([half_ends(sort) for sort in sorts_that_fit(many, answers)])


def unlike_pairs(numbers, answers):
    """The pairs of group numbers that an answer tells to be unlike, sorted."""
    unlike = [(numbers[i], numbers[j]) for i, j, alike in answers if not alike]
    return sorted({(min(p, q), max(p, q)) for p, q in unlike})


def groups_of(many, answers):
    """The groups that answers make, and which of them are unlike by an answer."""
    check_right(many, answers)
    homes = homes_of(answers)
    kinds = [homes.get(thing, thing) for thing in range(many)]
    return (alike_things(kinds), unlike_pairs(sorts_of(kinds), answers))
