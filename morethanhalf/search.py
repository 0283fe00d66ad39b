"""The search for a tree of asks with the fewest asks at worst."""

from morethanhalf.asks import pairs_of
from morethanhalf.ends import OPEN, common_end


class Search:
    """Finds trees that come to a right end for each one of some sorts, told by their numbers."""

    def __init__(self, many, sorts, ends):
        self.pairs = pairs_of(many)
        self.sorts = sorts
        self.ends = ends
        # Unlike asks often leave the same sorts, which would else be searched again and again.
        self.searched = {}

    def tree_within(self, left, asks):
        """A tree of at most so many asks for the sorts that are left, None where there is none."""
        if (left, asks) not in self.searched:
            self.searched[(left, asks)] = self.new_tree(left, asks)
        return self.searched[(left, asks)]

    def new_tree(self, left, asks):
        """What tree_within tells, searched for."""
        end = common_end([self.ends[number] for number in left])
        if end != OPEN:
            return end
        if asks == 0:
            return None
        for i, j in self.pairs:
            tree = self.tree_asking(i, j, left, asks)
            if tree is not None:
                return tree
        return None

    def tree_asking(self, i, j, left, asks):
        """A tree that begins with this ask, None where there is none."""
        alike = tuple([number for number in left if self.sorts[number][i] == self.sorts[number][j]])
        unlike = tuple([number for number in left if self.sorts[number][i] != self.sorts[number][j]])
        # An ask whose answer is known already is of no use.
        if not alike or not unlike:
            return None
        if_alike = self.tree_within(alike, asks - 1)
        if if_alike is None:
            return None
        if_unlike = self.tree_within(unlike, asks - 1)
        if if_unlike is None:
            return None
        return ("ask", i, j, if_alike, if_unlike)


def fewest_asks(many, sorts, ends):
    """The fewest asks at worst to a right end for each sort, and a tree of this depth.

    The ends are a list for each sort, of those that are right of it.
    """
    search = Search(many, sorts, ends)
    every = tuple(range(len(sorts)))
    asks = 0
    # With all asks made each sort is left alone, so there is a tree at last.
    while search.tree_within(every, asks) is None:
        asks += 1
    return (asks, search.tree_within(every, asks))
