"""A desk that is told rows: things, answers of who is alike, and what is asked of them."""

from morethanhalf.answers import groups_of, tells
from morethanhalf.errors import NoForm, NoneYet
from morethanhalf.kinds import MOST_THINGS
from morethanhalf.texts import is_number, read_tree
from morethanhalf.trees import MOST_SEARCHED, depth, fewest, finds_out

LIKENINGS = {"like": True, "unlike": False}


def is_things(row):
    """Whether the row tells how many things there are."""
    return row in [f"things {many}" for many in range(1, MOST_THINGS + 1)]


def is_tree(row):
    """Whether the row goes with a tree, or with any text in its place."""
    return row.startswith("tree ")


def is_answer(row):
    """Whether the row tells of two numbers that they are alike or unlike."""
    words = row.split(" ")
    return len(words) == 3 and is_number(words[0]) and is_number(words[1]) and words[2] in LIKENINGS


def check_form(row):
    """Refuse what is no row."""
    if not isinstance(row, str):
        raise NoForm("a row is a text")
    if not (is_things(row) or is_tree(row) or is_answer(row) or row in ("groups", "fewest")):
        raise NoForm("there is no such row")


def in_words(parts):
    """The parts with blanks between them."""
    return " ".join([str(part) for part in parts])


class Desk:
    """Is told rows, and tells an answer to each."""

    def __init__(self):
        # There are no things till a row tells how many.
        self.many = 0
        self.answers = []

    def say(self, row):
        """Take a row, and tell its answer."""
        check_form(row)
        if is_things(row):
            return self.begin_anew(row)
        if self.many == 0:
            raise NoneYet("it is not told yet how many things there are")
        if is_tree(row):
            return self.try_tree(row)
        if row == "groups":
            return self.show_groups()
        if row == "fewest":
            return self.show_fewest()
        return self.take_answer(row)

    def begin_anew(self, row):
        """Begin with so many things, and without answers."""
        word, many = row.split(" ")
        self.many = int(many)
        self.answers = []
        return "ok"

    def take_answer(self, row):
        """Put the answer to those told, and tell what all of them tell now."""
        i, j, likening = row.split(" ")
        answers = self.answers + [(int(i), int(j), LIKENINGS[likening])]
        told = tells(self.many, answers)
        # Kept only now, for an answer that is refused is left out.
        self.answers = answers
        return in_words(told)

    def show_groups(self):
        """The groups that the answers make."""
        groups, unlike = groups_of(self.many, self.answers)
        return " / ".join([in_words(group) for group in groups])

    def show_fewest(self):
        """The fewest asks at worst from the beginning, as far as they are known."""
        if self.many > MOST_SEARCHED:
            return "unknown"
        asks, tree = fewest(self.many)
        return str(asks)

    def try_tree(self, row):
        """Whether the tree behind the word finds out, and its depth."""
        word, blank, text = row.partition(" ")
        tree = read_tree(text)
        if not finds_out(self.many, tree):
            return "fails"
        return in_words(["finds", depth(tree)])
