"""Points 2 and 6, entries, and what modesdown/trees.py tells of them."""

import unittest

from modesdown.errors import BadMode, BadName, NoEntry, TooMany
from modesdown.modes import Mode
from modesdown.trees import Entry, File, Folder, Holder, Tree
from tests.case import Case, is_name
from tests.samples import any_values, is_integer


def is_mode(value):
    return isinstance(value, Mode) or is_integer(value) and 0 <= value <= 511


def file():
    return File(0o640, "ann", "staff")


def full(many):
    """A folder with so many entries in all, itself included, not all of them its children."""
    made = Folder(0o755, "ann", "staff")
    inner = Folder(0o755, "ann", "staff")
    for k in range(min(many - 2, 10)):
        inner.put("abcdefghij"[k], file())
    if many > 1:
        made.put("inner", inner)
    for k in range(many - 1 - len(inner) - 1):
        made.put("f" + "abcdefghijklmnopqrstuvwxyz"[k // 26] + "abcdefghijklmnopqrstuvwxyz"[k % 26], file())
    return made


def count(entry):
    if not isinstance(entry, Folder):
        return 1
    return 1 + sum(count(entry[name]) for name in entry.names())


class Made(Case):
    def test_bases(self):
        self.assertEqual(File.__bases__, (Entry,))
        self.assertEqual(Folder.__bases__, (Entry, Holder))

    def test_modes_as_numbers_and_as_modes(self):
        for number in range(512):
            for mode in (number, Mode(number)):
                for one, form in ((File, "file"), (Folder, "folder")):
                    entry = one(mode, "ann", "staff")
                    self.assertIs(type(entry.mode), Mode)
                    self.same(entry.mode.number, number)
                    self.same([entry.owner, entry.group, entry.form], ["ann", "staff", form])

    def test_by_name(self):
        entry = File(group="staff", owner="ann", mode=5)
        self.same([entry.mode.number, entry.owner, entry.group], [5, "ann", "staff"])
        entry = Folder(group="staff", owner="ann", mode=5, a=file(), b=Folder(0, "b", "b"))
        self.same([entry.mode.number, entry.owner, entry.group, entry.names()], [5, "ann", "staff", ["a", "b"]])

    def test_any_value_in_each_place(self):
        for one in (File, Folder):
            for value in any_values():
                if not is_mode(value):
                    self.fails(BadMode, ("number",), one, value, "ann", "staff")
                    self.fails(BadMode, ("number",), one, value, None, None)
                if is_name(value):
                    self.same([one(0, value, "zz").owner, one(0, "zz", value).group], [value, value])
                else:
                    self.fails(BadName, (value,), one, 0, value, "staff")
                    self.fails(BadName, (value,), one, 0, "ann", value)
                    self.fails(BadName, (value,), one, 0, value, "A")
                    self.fails(BadName, ("A",), one, 0, "A", value)

    def test_order_of_refusals_of_a_folder(self):
        many = {"Bad": full(60), "An": file(), "ok": file()}
        self.fails(BadMode, ("number",), Folder, 512, "A", "B", **many)
        self.fails(BadName, ("A",), Folder, 511, "A", "B", **many)
        self.fails(BadName, ("B",), Folder, 511, "a", "B", **many)
        self.fails(BadName, ("An",), Folder, 511, "a", "b", **many)
        del many["An"]
        self.fails(BadName, ("Bad",), Folder, 511, "a", "b", **many)
        del many["Bad"]
        many["big"] = full(60)
        self.fails(TooMany, (60,), Folder, 511, "a", "b", **many)
        del many["big"]
        self.same(Folder(511, "a", "b", **many).names(), ["ok"])

    def test_names_of_children(self):
        for value in any_values():
            if type(value) is str and value not in ("mode", "owner", "group", "self"):
                if is_name(value):
                    self.same(Folder(0, "a", "b", **{value: file()}).names(), [value])
                else:
                    self.fails(BadName, (value,), Folder, 0, "a", "b", **{value: file()})
        self.fails(BadName, ("",), Folder, 0, "a", "b", **{"z~": file(), "": file(), "A": file()})
        self.fails(BadName, ("a/b",), Folder, 0, "a", "b", **{"b/a": file(), "a/b": file(), "a": file()})

    def test_sixty_entries(self):
        for many in (1, 2, 3, 20, 59):
            inner = full(many)
            self.same(count(inner), many)
            made = Folder(0, "a", "b", inner=inner)
            self.same(count(made), many + 1)
        self.fails(TooMany, (60,), Folder, 0, "a", "b", inner=full(60))
        halves = {"a": full(30), "b": full(29)}
        self.same(count(Folder(0, "a", "b", **halves)), 60)
        self.fails(TooMany, (60,), Folder, 0, "a", "b", c=file(), **halves)

    def test_properties_are_only_read(self):
        for entry in (file(), Folder(0o640, "ann", "staff")):
            for name in ("mode", "owner", "group", "form"):
                with self.assertRaises(AttributeError):
                    setattr(entry, name, 5)
            self.same([entry.mode.number, entry.owner, entry.group], [0o640, "ann", "staff"])

    def test_set_mode(self):
        for entry in (file(), Folder(0o640, "ann", "staff", a=file())):
            for value in any_values():
                if is_mode(value):
                    self.assertIsNone(entry.set_mode(value))
                    self.assertEqual(entry.mode, value if isinstance(value, Mode) else Mode(value))
                    entry.set_mode(mode=Mode(0o123))
                else:
                    entry.set_mode(0o123)
                    self.fails(BadMode, ("number",), entry.set_mode, value)
                self.assertIs(type(entry.mode), Mode)
                self.same([entry.mode.number, entry.owner, entry.group], [0o123, "ann", "staff"])


class Copies(Case):
    def test_what_was_handed_in_is_copied(self):
        leaf = file()
        inner = Folder(0o755, "ann", "staff", leaf=leaf)
        outer = Folder(0o755, "ann", "staff", inner=inner)
        leaf.set_mode(0)
        inner.set_mode(0)
        inner["leaf"].set_mode(1)
        inner.put("more", leaf)
        self.same([outer["inner"].mode.number, outer["inner"]["leaf"].mode.number], [0o755, 0o640])
        self.same(outer["inner"].names(), ["leaf"])

    def test_what_is_put_in_is_copied(self):
        leaf = file()
        inner = Folder(0o755, "ann", "staff", leaf=leaf)
        outer = Folder(0o755, "ann", "staff")
        self.assertIsNone(outer.put("inner", inner))
        inner["leaf"].set_mode(1)
        inner.put("more", leaf)
        self.same([outer["inner"]["leaf"].mode.number, outer["inner"].names()], [0o640, ["leaf"]])

    def test_what_is_handed_out_is_no_copy(self):
        outer = Folder(0o755, "ann", "staff", inner=Folder(0o700, "bob", "ops", leaf=file()))
        outer["inner"]["leaf"].set_mode(3)
        outer["inner"].set_mode(4)
        outer["inner"].put("b", file())
        self.same([outer["inner"].mode.number, outer["inner"]["leaf"].mode.number], [4, 3])
        self.same(outer["inner"].names(), ["b", "leaf"])
        self.assertIs(outer["inner"], outer["inner"])

    def test_one_entry_under_two_names(self):
        leaf = file()
        outer = Folder(0o755, "ann", "staff", a=leaf, b=leaf)
        outer.put("c", leaf)
        outer.put("d", outer["a"])
        outer["a"].set_mode(7)
        self.same([outer[name].mode.number for name in "abcd"], [7, 0o640, 0o640, 0o640])

    def test_a_folder_put_into_itself(self):
        outer = Folder(0o755, "ann", "staff", a=file())
        outer.put("me", outer)
        self.same([outer.names(), outer["me"].names(), len(outer["me"])], [["a", "me"], ["a"], 1])
        outer.put("a", outer["me"])
        self.same([outer["a"].names(), count(outer)], [["a"], 5])

    def test_copy(self):
        leaf = file()
        one = leaf.copy()
        self.assertIs(type(one), File)
        leaf.set_mode(0)
        self.same([one.mode.number, one.owner, one.group], [0o640, "ann", "staff"])
        outer = Folder(0o751, "ann", "staff", inner=Folder(0o700, "bob", "ops", leaf=file()))
        other = outer.copy()
        self.assertIs(type(other), Folder)
        self.assertEqual(outer, other)
        outer["inner"]["leaf"].set_mode(0)
        outer["inner"].put("more", file())
        outer.put("more", file())
        outer.set_mode(0)
        self.same([other.mode.number, other.names(), other["inner"].names()], [0o751, ["inner"], ["leaf"]])
        self.same(other["inner"]["leaf"].mode.number, 0o640)
        other["inner"]["leaf"].set_mode(9)
        self.same(outer["inner"]["leaf"].mode.number, 0)

    def test_a_child_with_the_name_of_an_argument(self):
        outer = Folder(0, "ann", "staff")
        for name in ("mode", "owner", "group", "self"):
            outer.put(name, file())
        self.same(outer.copy().names(), ["group", "mode", "owner", "self"])
        self.assertEqual(outer.copy(), outer)
        self.same(Tree(outer).size(), 5)


class Children(Case):
    def test_names_are_ascending_and_the_caller_s(self):
        outer = Folder(0, "ann", "staff", b=file(), ab=file(), a=file(), zz=file(), aa=file())
        self.same(outer.names(), ["a", "aa", "ab", "b", "zz"])
        outer.names().clear()
        self.same(outer.names(), ["a", "aa", "ab", "b", "zz"])
        self.same([len(outer), len(Folder(0, "a", "b"))], [5, 0])
        self.same(Folder(0, "a", "b").names(), [])

    def test_in_and_item_with_any_value(self):
        outer = Folder(0, "ann", "staff", ann=file(), staff=Folder(0, "b", "b", inner=file()))
        for value in any_values():
            self.same(value in outer, type(value) is str and value == "ann")
            if type(value) is str and value == "ann":
                self.assertEqual(outer[value], file())
            else:
                self.fails(NoEntry, (value,), outer.__getitem__, value)
        self.same(["staff" in outer, "inner" in outer, "staff/inner" in outer], [True, False, False])
        self.fails(NoEntry, ("staff/inner",), outer.__getitem__, "staff/inner")
        self.fails(NoEntry, (0,), outer.__getitem__, 0)

    def test_put_any_value_as_the_name(self):
        for value in any_values():
            outer = Folder(0, "ann", "staff")
            if is_name(value):
                outer.put(value, file())
                self.same(outer.names(), [value])
                outer.put(name=value, entry=Folder(1, "b", "b"))
                self.same([outer.names(), outer[value].form], [[value], "folder"])
            else:
                self.fails(BadName, (value,), outer.put, value, file())
                self.fails(BadName, (value,), outer.put, value, full(60))
                self.same(len(outer), 0)

    def test_put_in_the_place_of_another(self):
        outer = Folder(0, "ann", "staff", a=Folder(1, "b", "b", c=file()), b=file())
        outer.put("a", File(2, "cy", "cy"))
        self.assertEqual(outer["a"], File(2, "cy", "cy"))
        self.same([outer.names(), outer["a"].form], [["a", "b"], "file"])

    def test_the_sixtieth_and_the_sixty_first(self):
        outer = full(59)
        outer.put("last", file())
        self.same(count(outer), 60)
        for name, entry in (("more", file()), ("more", Folder(0, "a", "b")), ("last", Folder(0, "a", "b", c=file()))):
            before = outer.copy()
            self.fails(TooMany, (60,), outer.put, name, entry)
            self.assertEqual(outer, before)
        outer.put("last", Folder(0, "a", "b"))
        self.same(count(outer["inner"]), 11)
        outer.put("inner", full(11))
        self.same(count(outer), 60)
        self.fails(TooMany, (60,), outer.put, "inner", full(12))
        outer.put("inner", file())
        outer.put("more", full(10))
        self.same(count(outer), 60)

    def test_an_inner_folder_counts_itself_alone(self):
        outer = Folder(0, "ann", "staff", a=full(58))
        outer["a"].put("more", file())
        outer["a"].put("most", file())
        self.same([count(outer["a"]), count(outer)], [60, 61])
        self.fails(TooMany, (60,), outer["a"].put, "last", file())
        self.fails(TooMany, (60,), Tree, outer)


class Equal(Case):
    def test_by_all_parts(self):
        def made(mode=0o750, owner="ann", group="staff", inner=0o640, name="a"):
            return Folder(mode, owner, group, **{name: Folder(0, "b", "b", leaf=File(inner, "ann", "staff"))})
        self.same(made() == made(), True)
        self.same(made() != made(), False)
        for other in (made(mode=0), made(owner="bob"), made(group="ops"), made(inner=1), made(name="b")):
            self.same([made() == other, made() != other], [False, True])
        self.same(made() == Folder(0o750, "ann", "staff"), False)
        more = made()
        more.put("b", file())
        self.same([made() == more, more == made()], [False, False])

    def test_files(self):
        self.same(file() == file(), True)
        for other in (File(0o641, "ann", "staff"), File(0o640, "bob", "staff"), File(0o640, "ann", "ops")):
            self.same([file() == other, file() != other], [False, True])

    def test_a_file_and_a_folder(self):
        self.same(file() == Folder(0o640, "ann", "staff"), False)
        self.same(Folder(0o640, "ann", "staff") == file(), False)
        self.same(Folder(0, "a", "a", b=file()) == Folder(0, "a", "a", b=Folder(0o640, "ann", "staff")), False)

    def test_order_of_putting_in_means_nothing(self):
        one, other = Folder(0, "a", "a"), Folder(0, "a", "a")
        for name in "abc":
            one.put(name, File(5, name, "a"))
        for name in "cab":
            other.put(name, File(5, name, "a"))
        self.same(one == other, True)

    def test_things_of_another_kind(self):
        for entry in (File(6, "ann", "ann"), Folder(6, "ann", "ann"), Folder(6, "ann", "ann", a=file())):
            for value in any_values() + [Tree(Folder(6, "ann", "ann"))]:
                self.same([entry == value, value == entry, entry != value], [False, False, True])


if __name__ == "__main__":
    unittest.main()
