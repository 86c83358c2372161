"""Users and chiefs, and what they can do at an entry."""

from modesdown.checks import are_unlike_names, is_name
from modesdown.errors import BadUser
from modesdown.modes import number_of

# How far the three bits of a class stand from the right end of a mode.
SHIFTS = {"owner": 6, "group": 3, "others": 0}


class User:
    """A user. It never changes."""

    GROUPS = 2

    def __init__(self, name, *groups):
        if not is_name(name):
            raise BadUser("name")
        if len(groups) > User.GROUPS or not are_unlike_names(groups):
            raise BadUser("groups")
        self._name = name
        self._groups = groups

    @property
    def name(self):
        return self._name

    # An error has a field of this name, and what is assigned anywhere has a setter everywhere.
    @name.setter
    def name(self, value):
        raise AttributeError("a user never changes")

    @property
    def groups(self):
        return self._groups

    def class_at(self, owner, group):
        """The class of the user at an entry of this owner and group."""
        if owner == self._name:
            return "owner"
        return "group" if group in self._groups else "others"

    def bits_at(self, mode, owner, group):
        """The bits of the user's class, from 0 to 7."""
        return (number_of(mode) >> SHIFTS[self.class_at(owner, group)]) & 7

    def passes(self, mode, owner, group):
        """Whether the user can go through such a folder to an entry whose name is known."""
        return self.bits_at(mode, owner, group) & 1 == 1

    def lists(self, mode, owner, group):
        """Whether the user can go on to all that is in such a folder."""
        return self.bits_at(mode, owner, group) & 5 == 5

    def may_change(self, owner):
        """Whether the user may change an entry of this owner."""
        return owner == self._name

    def __eq__(self, other):
        return (
            isinstance(other, User)
            and isinstance(self, Chief) == isinstance(other, Chief)
            and self._name == other._name
            and sorted(self._groups) == sorted(other._groups)
        )


class Chief(User):
    """A user who passes and lists every folder and may change every entry. It never changes."""

    def __init__(self, name, *groups):
        super().__init__(name, *groups)

    def class_at(self, owner, group):
        """The class that a user of this name and groups has."""
        return super().class_at(owner, group)

    def bits_at(self, mode, owner, group):
        """The bits that a user of this name and groups has."""
        return super().bits_at(mode, owner, group)

    def passes(self, mode, owner, group):
        """True; what is no mode is refused all the same."""
        number_of(mode)
        return True

    def lists(self, mode, owner, group):
        """True; what is no mode is refused all the same."""
        number_of(mode)
        return True

    def may_change(self, owner):
        """True."""
        return True
