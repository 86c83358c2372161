"""Point 5 and the heading modesdown/users.py."""

import unittest

from modesdown.errors import BadMode, BadUser
from modesdown.modes import Mode
from modesdown.users import Chief, User
from tests.case import Case, is_name
from tests.samples import any_values, is_integer

KINDS = (User, Chief)
# User's name, groups, owner and group of the entry, the class.
TOLD = [
    ("ann", (), "ann", "staff", "owner"),
    ("ann", ("staff",), "ann", "staff", "owner"),
    ("ann", ("staff",), "bob", "staff", "group"),
    ("ann", ("ops", "staff"), "bob", "staff", "group"),
    ("ann", ("staff", "ops"), "bob", "staff", "group"),
    ("ann", ("staff",), "bob", "ops", "others"),
    ("ann", (), "bob", "staff", "others"),
    ("ann", (), "bob", "ann", "others"),
    ("ann", ("bob",), "bob", "ann", "others"),
    ("ann", ("ann",), "bob", "ann", "group"),
    ("ann", ("ann",), "ann", "ann", "owner"),
]


class Made(Case):
    def test_right_ones(self):
        for one in KINDS:
            for name in ("a", "z", "ann", "abcdefgh", "zzzzzzzz"):
                for groups in ((), ("staff",), ("staff", "ops"), ("ops", "staff"), (name,), ("a", "abcdefgh")):
                    user = one(name, *groups)
                    self.assertIs(type(user), one)
                    self.same(user.name, name)
                    if groups != ("a", "a"):
                        self.same(user.groups, groups)

    def test_groups_is_two(self):
        self.same([User.GROUPS, User("ann").GROUPS, Chief("ann").GROUPS, Chief.GROUPS], [2, 2, 2, 2])

    def test_any_value_as_the_name(self):
        for one in KINDS:
            for value in any_values():
                if is_name(value):
                    self.same(one(value).name, value)
                    self.same(one(name=value).name, value)
                else:
                    self.fails(BadUser, ("name",), one, value)
                    self.fails(BadUser, ("name",), one, value, "staff")

    def test_any_value_as_a_group(self):
        for one in KINDS:
            for value in any_values():
                if is_name(value):
                    self.same(one("bob", value).groups, (value,))
                    self.same(one("bob", "zz", value).groups, ("zz", value))
                    self.fails(BadUser, ("groups",), one, "bob", value, value)
                else:
                    self.fails(BadUser, ("groups",), one, "bob", value)
                    self.fails(BadUser, ("groups",), one, "bob", value, "zz")
                    self.fails(BadUser, ("groups",), one, "bob", "zz", value)
                    self.fails(BadUser, ("groups",), one, "bob", value, value)

    def test_too_many_groups_and_one_twice(self):
        for one in KINDS:
            self.fails(BadUser, ("groups",), one, "ann", "a", "b", "c")
            self.fails(BadUser, ("groups",), one, "ann", "a", "b", "c", "d")
            self.fails(BadUser, ("groups",), one, "ann", "a", "a")
            self.fails(BadUser, ("groups",), one, "ann", "a", "b", "a")

    def test_the_name_is_told_first(self):
        for one in KINDS:
            for groups in (("A",), ("a", "a"), ("a", "b", "c"), (None,)):
                self.fails(BadUser, ("name",), one, "", *groups)
                self.fails(BadUser, ("name",), one, None, *groups)

    def test_properties_are_only_read(self):
        for one in KINDS:
            user = one("ann", "staff")
            for name in ("name", "groups"):
                with self.assertRaises(AttributeError):
                    setattr(user, name, "bob")
            self.same([user.name, user.groups], ["ann", ("staff",)])

    def test_a_chief_is_a_user(self):
        self.assertTrue(issubclass(Chief, User))
        self.assertEqual(Chief.__bases__, (User,))


class Rights(Case):
    def test_class_at(self):
        for one in KINDS:
            for name, groups, owner, group, told in TOLD:
                self.same(one(name, *groups).class_at(owner, group), told)
                self.same(one(name, *groups).class_at(group=group, owner=owner), told)

    def test_bits_passes_and_lists_on_all_modes(self):
        for name, groups, owner, group, told in TOLD:
            user, chief = User(name, *groups), Chief(name, *groups)
            at = ("owner", "group", "others").index(told)
            for number in range(512):
                bits = int(f"{number:03o}"[at])
                for mode in (number, Mode(number)):
                    self.same(user.bits_at(mode, owner, group), bits)
                    self.same(chief.bits_at(mode, owner, group), bits)
                    self.same(user.passes(mode, owner, group), bits in (1, 3, 5, 7))
                    self.same(user.lists(mode, owner, group), bits in (5, 7))
                    self.same(chief.passes(mode, owner, group), True)
                    self.same(chief.lists(mode, owner, group), True)

    def test_another_class_with_more_letters_does_not_help(self):
        ann = User("ann", "staff")
        self.same([ann.lists(0o077, "ann", "staff"), ann.passes(0o077, "ann", "staff")], [False, False])
        self.same([ann.lists(0o707, "bob", "staff"), ann.passes(0o707, "bob", "staff")], [False, False])
        self.same([ann.lists(0o770, "bob", "ops"), ann.passes(0o770, "bob", "ops")], [False, False])

    def test_x_alone_and_r_alone(self):
        ann = User("ann")
        self.same([ann.passes(0o100, "ann", "a"), ann.lists(0o100, "ann", "a")], [True, False])
        self.same([ann.passes(0o600, "ann", "a"), ann.lists(0o600, "ann", "a")], [False, False])
        self.same([ann.passes(0o500, "ann", "a"), ann.lists(0o500, "ann", "a")], [True, True])

    def test_may_change(self):
        for groups in ((), ("bob",), ("staff", "bob")):
            user, chief = User("ann", *groups), Chief("ann", *groups)
            self.same([user.may_change("ann"), user.may_change("bob"), user.may_change("staff")], [True, False, False])
            self.same([chief.may_change("ann"), chief.may_change("bob"), chief.may_change("staff")], [True] * 3)
            self.same([user.may_change(owner="ann"), chief.may_change(owner="x")], [True, True])

    def test_what_is_no_mode(self):
        for user in (User("ann", "staff"), Chief("ann", "staff")):
            for call in (user.bits_at, user.passes, user.lists):
                for value in any_values() + [512, -1, True]:
                    if isinstance(value, Mode) or is_integer(value) and 0 <= value <= 511:
                        call(value, "ann", "staff")
                        continue
                    for owner, group in (("ann", "staff"), ("bob", "staff"), ("bob", "ops")):
                        self.fails(BadMode, ("number",), call, value, owner, group)
                        self.fails(BadMode, ("number",), call, mode=value, owner=owner, group=group)


class Equal(Case):
    def test_by_names_and_groups_in_any_order(self):
        for one in KINDS:
            self.same(one("ann") == one("ann"), True)
            self.same(one("ann", "a") == one("ann", "a"), True)
            self.same(one("ann", "a", "b") == one("ann", "b", "a"), True)
            self.same(one("ann", "a", "b") != one("ann", "b", "a"), False)
            self.same(one("ann", "b", "a") == one("ann", "b", "a"), True)
            self.same(one("ann") == one("bob"), False)
            self.same(one("ann") == one("ann", "a"), False)
            self.same(one("ann", "a") == one("ann", "b"), False)
            self.same(one("ann", "a", "b") == one("ann", "a"), False)
            self.same(one("ann", "a", "b") == one("ann", "a", "c"), False)
            self.same(one("ann", "a") == one("a", "ann"), False)

    def test_a_user_and_a_chief(self):
        for groups in ((), ("a",), ("a", "b")):
            self.same(User("ann", *groups) == Chief("ann", *groups), False)
            self.same(Chief("ann", *groups) == User("ann", *groups), False)
            self.same(User("ann", *groups) != Chief("ann", *groups), True)

    def test_things_of_another_kind(self):
        for user in (User("ida", "staff"), Chief("ida", "staff")):
            for value in any_values() + ["ida", ("ida", "staff"), ("ida", ("staff",))]:
                self.same(user == value, False)
                self.same(value == user, False)
                self.same(user != value, True)


if __name__ == "__main__":
    unittest.main()
