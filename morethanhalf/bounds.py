"""How many things are answered for."""

from morethanhalf.errors import NoThing, TooMany


def check_many(many, least, greatest):
    """Refuse fewer things than the least number, and more than the greatest."""
    if many < least:
        raise NoThing(f"there must be {least} things or more, not {many}")
    if many > greatest:
        raise TooMany(f"there must be {greatest} things or fewer, not {many}")
