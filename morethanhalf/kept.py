"""The kind that more than half are, kept while things come and go."""

from morethanhalf.errors import NoAsk, NoName


class Keeper:
    """Keeps the things that are there in groups of alike ones."""

    def __init__(self):
        # The names as they came, in groups by the groups' beginnings.
        self.kept = []
        # The one that came and has no group yet, and how many groups it is known not to belong to.
        self.coming = None
        self.passed = 0
        self.answered = 0

    def wants(self):
        """The two names to ask for next, None where nothing is asked for."""
        if self.coming is None:
            return None
        return (self.kept[self.passed][0], self.coming)

    def check_nothing_wanted(self):
        """Refuse what must wait till the one that came has its group."""
        if self.coming is not None:
            raise NoAsk("an answer is wanted first")

    def group_with(self, name):
        """The group that the name is in, None where it is not there."""
        for group in self.kept:
            if name in group:
                return group
        return None

    def begin_group_if_unlike_all(self):
        """Let the one that came begin a group once no group is left to ask."""
        if self.passed == len(self.kept):
            self.kept.append([self.coming])
            self.coming = None

    def come(self, name):
        """Let a thing come, to be asked with the groups one by one."""
        self.check_nothing_wanted()
        if self.group_with(name) is not None:
            raise NoName(f"{name} is there already")
        self.coming = name
        self.passed = 0
        self.begin_group_if_unlike_all()

    def hear(self, alike):
        """Hear the answer to what is asked for."""
        if self.coming is None:
            raise NoAsk("nothing is asked for")
        self.answered += 1
        if alike:
            self.kept[self.passed].append(self.coming)
            self.coming = None
        else:
            self.passed += 1
            self.begin_group_if_unlike_all()

    def go(self, name):
        """Let a thing go."""
        self.check_nothing_wanted()
        group = self.group_with(name)
        if group is None:
            raise NoName(f"{name} is not there")
        group.remove(name)
        self.kept = [each for each in self.kept if each]

    def most(self):
        """The names of the kind that more than half are, as they came, [] where there is none."""
        self.check_nothing_wanted()
        many = sum([len(group) for group in self.kept])
        for group in self.kept:
            if 2 * len(group) > many:
                return list(group)
        return []

    def groups(self):
        """How many groups there are."""
        self.check_nothing_wanted()
        return len(self.kept)

    def heard(self):
        """How many answers were heard since the keeper began."""
        self.check_nothing_wanted()
        return self.answered
