"""Trees of asks as texts, written and read."""

from morethanhalf.errors import NoText

FIGURES = "0123456789"


def show_tree(tree):
    """The text of the tree."""
    shown = []
    # What is left to be shown, the next one last, instead of calls within calls as deep as the tree.
    left = [tree]
    while left:
        part = left.pop()
        if isinstance(part, str):
            shown.append(part)
        elif part[0] == "ask":
            i, j, alike, unlike = part[1:]
            shown.append(f"{i}?{j}(")
            left.extend([")", unlike, ":", alike])
        else:
            shown.append(f"i{part[1]}" if part[0] == "one" else "none")
    return "".join(shown)


def is_number(text):
    """Whether the text is a number in figures, without a 0 ahead but of 0 itself."""
    if text == "" or not all([sign in FIGURES for sign in text]):
        return False
    return text == "0" or text[0] != "0"


class Reader:
    """A text that is read from its beginning on, up to a place."""

    def __init__(self, text):
        self.text = text
        self.place = 0

    def stands(self, word):
        """Whether the word stands next."""
        return self.text.startswith(word, self.place)

    def skip(self, word):
        """Read the word, which must stand next."""
        if not self.stands(word):
            raise NoText(f"there is no {word} at {self.place}")
        self.place += len(word)

    def number(self):
        """Read the number that must stand next."""
        begin = self.place
        while self.place < len(self.text) and self.text[self.place] in FIGURES:
            self.place += 1
        figures = self.text[begin:self.place]
        if not is_number(figures):
            raise NoText(f"there is no number at {begin}")
        return int(figures)

    def end(self):
        """Read the end that stands next, None where there is none."""
        if self.stands("none"):
            self.skip("none")
            return ("none",)
        if self.stands("i"):
            self.skip("i")
            return ("one", self.number())
        return None

    def begun_ask(self):
        """Read an ask up to its trees, which it is then to be filled with."""
        i = self.number()
        self.skip("?")
        j = self.number()
        self.skip("(")
        return ["ask", i, j]

    def whole_tree(self, begun, tree):
        """Put a tree to the last one of the asks begun, and so on: the whole tree, None where one is still to come."""
        while begun:
            begun[-1].append(tree)
            if len(begun[-1]) < 5:
                self.skip(":")
                return None
            self.skip(")")
            tree = tuple(begun.pop())
        return tree


def read_tree(text):
    """The tree of the text."""
    reader = Reader(text)
    # A text may begin more asks within one another than calls may go deep.
    begun = []
    tree = None
    while tree is None:
        end = reader.end()
        if end is None:
            begun.append(reader.begun_ask())
        else:
            tree = reader.whole_tree(begun, end)
    if reader.place < len(text):
        raise NoText(f"there is something behind the tree, at {reader.place}")
    return tree
