"""Points 2 and 6, trees, and what modesdown/trees.py tells of them."""

import random
import unittest

from modesdown.errors import BadMode, BadPath, NoEntry, TooMany
from modesdown.modes import Mode
from modesdown.trees import File, Folder, Tree
from modesdown.users import Chief, User
from tests import builds, walker
from tests.case import Case, is_path
from tests.samples import any_values, is_integer
from tests.test_entries import full

# Paths that are none, also below a file and below what is not there.
NO_PATHS = ["/", "/a", "a/", "a//b", "A", "a/B", "a/abcdefghi", "doc/note/X", "none/X", "src/", " ", "a b", "a\n", ".", "src/1"]


def made():
    doc = Folder(0o755, "bob", "staff", note=File(0o640, "ann", "staff"), old=Folder(0o700, "bob", "ops", a=File(1, "a", "a")))
    return Tree(Folder(0o700, "ann", "staff", doc=doc, src=File(0o644, "ann", "staff")))


ROWS = [
    ("", "folder", 0o700, "ann", "staff"), ("doc", "folder", 0o755, "bob", "staff"), ("doc/note", "file", 0o640, "ann", "staff"),
    ("doc/old", "folder", 0o700, "bob", "ops"), ("doc/old/a", "file", 1, "a", "a"), ("src", "file", 0o644, "ann", "staff"),
]
PATHS = [row[0] for row in ROWS]
# Paths that lead nowhere, the last two below a file.
NOWHERE = ["none", "doc/none", "doc/old/b", "none/a", "doc/none/a", "src/a", "src/a/b", "doc/note/a"]


class Read(Case):
    def test_entries_and_rows(self):
        tree = made()
        pairs = list(tree.entries())
        self.same([path for path, entry in pairs], PATHS)
        for path, entry in pairs:
            self.assertIs(entry, tree.entry(path))
        self.same(tree.rows(), ROWS)
        self.same(tree.size(), 6)
        for pair in tree.entries():
            self.assertIs(type(pair), tuple)

    def test_rows_belong_to_the_caller(self):
        tree = made()
        tree.rows().clear()
        self.same(tree.rows(), ROWS)

    def test_children_are_ordered_by_names(self):
        tree = Tree(Folder(0, "a", "a"))
        for path in ("ab", "b", "a", "a/z", "ab/c", "aa", "a/b", "a/b/c", "abc", "a/bb"):
            tree.put(path, Folder(0, "a", "a"))
        wanted = ["", "a", "a/b", "a/b/c", "a/bb", "a/z", "aa", "ab", "ab/c", "abc", "b"]
        self.same([path for path, entry in tree.entries()], wanted)
        self.same([row[0] for row in tree.rows()], wanted)

    def test_against_the_oracle(self):
        chance = random.Random(5)
        for _ in range(150):
            plain = walker.random_tree(chance, 25)
            tree = builds.tree_of(plain)
            self.same(tree.rows(), [(path, *plain[path]) for path in walker.in_order(plain)])
            self.same(tree.size(), len(plain))
            self.assertEqual(Tree.of(*tree.rows()), tree)

    def test_of(self):
        self.assertEqual(Tree.of(*ROWS), made())
        self.same(Tree.of(*ROWS).rows(), ROWS)
        self.same(Tree.of(ROWS[0]).rows(), ROWS[:1])
        self.same(Tree.of(ROWS[0], ROWS[5], ROWS[1], ROWS[3], ROWS[4], ROWS[2]).rows(), ROWS)
        self.same(made().of(*ROWS).rows(), ROWS)
        self.assertIs(type(Tree.of(*ROWS)), Tree)

    def test_in_with_any_value(self):
        tree = made()
        for value in any_values() + NO_PATHS:
            self.same(value in tree, type(value) is str and value == "")
        for path in PATHS:
            self.same(path in tree, True)
        for path in NOWHERE:
            self.same(path in tree, False)

    def test_item(self):
        tree = made()
        for path, form, mode, owner, group in ROWS:
            self.assertIs(type(tree[path]), Mode)
            self.same(tree[path].number, mode)

    def test_entry(self):
        tree = made()
        for path, form, mode, owner, group in ROWS:
            entry = tree.entry(path)
            self.same([entry.form, entry.mode.number, entry.owner, entry.group], [form, mode, owner, group])
            self.assertIs(tree.entry(path=path), entry)
            entry.set_mode(0o123)
            self.same(tree[path].number, 0o123)
        self.same(tree.entry("doc").names(), ["note", "old"])

    def test_what_is_told_of_paths(self):
        tree = made()
        calls = [
            tree.__getitem__, tree.entry, lambda path: tree.__setitem__(path, 0), lambda path: tree.__setitem__(path, 512),
            lambda path: tree.bar(User("ann"), path), lambda path: tree.bar(Chief("ann"), path),
        ]
        for call in calls:
            for value in any_values() + NO_PATHS:
                if not is_path(value):
                    self.fails(BadPath, (value,), call, value)
                elif value != "":
                    self.fails(NoEntry, (value,), call, value)
            for path in NOWHERE:
                self.fails(NoEntry, (path,), call, path)
        self.same(tree.rows(), ROWS)


class Changed(Case):
    def test_set_a_mode(self):
        for path in PATHS:
            tree = made()
            tree[path] = 0o321
            self.same(tree[path].number, 0o321)
            tree[path] = Mode(0o123)
            self.same(tree.rows(), [row[:2] + (0o123,) + row[3:] if row[0] == path else row for row in ROWS])

    def test_set_what_is_no_mode(self):
        tree = made()
        for value in any_values():
            if not (isinstance(value, Mode) or is_integer(value) and 0 <= value <= 511):
                for path in PATHS:
                    self.fails(BadMode, ("number",), tree.__setitem__, path, value)
                self.fails(NoEntry, ("src/a",), tree.__setitem__, "src/a", value)
                self.fails(BadPath, ("src/",), tree.__setitem__, "src/", value)
        self.same(tree.rows(), ROWS)

    def test_put(self):
        new = Folder(0o111, "cy", "cy", b=File(2, "b", "b"))
        for put in (lambda tree, path: tree.put(path, new), lambda tree, path: tree.put(entry=new, path=path), added(new)):
            for path in ("new", "doc/new", "doc/old/new"):
                tree = made()
                put(tree, path)
                more = [(path, "folder", 0o111, "cy", "cy"), (path + "/b", "file", 2, "b", "b")]
                self.same(sorted(tree.rows()), sorted(ROWS + more))
            tree = made()
            put(tree, "doc")
            self.same([row[0] for row in tree.rows()], ["", "doc", "doc/b", "src"])
            tree = made()
            put(tree, "src")
            put(tree, "src/b")
            put(tree, "src/b/b")
            self.same([row[0] for row in tree.rows()], PATHS + ["src/b", "src/b/b", "src/b/b/b"])

    def test_put_copies(self):
        new = Folder(0o111, "cy", "cy", b=File(2, "b", "b"))
        tree = made()
        self.assertIsNone(tree.put("one", new))
        tree.put("two", new)
        new["b"].set_mode(3)
        tree["two/b"] = 4
        self.same([tree["one/b"].number, tree["two/b"].number, new["b"].mode.number], [2, 4, 3])

    def test_put_in_place_binds_the_same_tree(self):
        tree = made()
        other = tree
        tree += ("new", File(7, "a", "a"))
        self.assertIs(tree, other)
        self.same(tree["new"].number, 7)

    def test_put_refused(self):
        new = File(2, "b", "b")
        for entry in (new, full(60)):
            for put in (lambda tree, path: tree.put(path, entry), added(entry)):
                tree = made()
                for value in any_values() + NO_PATHS:
                    if not is_path(value) or value == "":
                        self.fails(BadPath, (value,), put, tree, value)
                for path, folder in (
                    ("src/a", "src"), ("src/a/b", "src/a"), ("none/a", "none"), ("doc/none/a", "doc/none"),
                    ("doc/note/a", "doc/note"), ("none/a/b/c", "none/a/b"),
                ):
                    self.fails(NoEntry, (folder,), put, tree, path)
                self.same(tree.rows(), ROWS)

    def test_the_sixtieth_and_the_sixty_first(self):
        tree = made()
        self.fails(TooMany, (60,), tree.put, "big", full(55))
        self.fails(TooMany, (60,), tree.put, "doc/old/big", full(55))
        self.fails(TooMany, (60,), added(full(55)), tree, "big")
        self.same(tree.rows(), ROWS)
        tree.put("doc/old/big", full(54))
        self.same(tree.size(), 60)
        self.fails(TooMany, (60,), tree.put, "src", Folder(0, "a", "a", b=File(0, "a", "a")))
        self.fails(TooMany, (60,), tree.put, "doc/more", File(0, "a", "a"))
        self.same(tree.size(), 60)
        tree.put("src", Folder(0, "a", "a"))
        tree.put("doc", full(58))
        self.same(tree.size(), 60)
        self.same(Tree.ENTRIES, 60)
        self.same(tree.ENTRIES, 60)

    def test_a_tree_of_sixty_and_of_sixty_one(self):
        self.same(Tree(full(60)).size(), 60)
        outer = Folder(0, "a", "a", a=full(59))
        outer["a"].put("more", File(0, "a", "a"))
        self.fails(TooMany, (60,), Tree, outer)
        self.fails(TooMany, (60,), Tree, top=outer)
        rows = Tree(full(60)).rows()
        self.same(Tree.of(*rows).rows(), rows)

    def test_entries_of_the_tree_itself(self):
        tree = made()
        tree.put("doc/me", tree.entry("doc"))
        self.same([row[0] for row in tree.rows()], [
            "", "doc", "doc/me", "doc/me/note", "doc/me/old", "doc/me/old/a", "doc/note", "doc/old", "doc/old/a", "src",
        ])
        tree["doc/me/note"] = 0
        self.same(tree["doc/note"].number, 0o640)
        tree = made()
        tree.put("doc/top", tree.entry(""))
        self.same(tree.size(), 12)
        self.same(tree["doc/top/doc/old/a"].number, 1)
        tree = made()
        tree.put("doc", tree.entry("doc/old"))
        self.same([row[0] for row in tree.rows()], ["", "doc", "doc/a", "src"])
        tree = made()
        tree.put("doc", tree.entry("doc"))
        self.same(tree.rows(), ROWS)
        tree = made()
        tree += ("src", tree.entry(""))
        self.same(tree.size(), 11)

    def test_take_out(self):
        tree = made()
        doc = tree.entry("doc")
        self.assertIs(tree.take_out("doc"), doc)
        self.same([row[0] for row in tree.rows()], ["", "src"])
        self.same(doc.names(), ["note", "old"])
        tree = made()
        self.same(tree.take_out(path="doc/old/a").owner, "a")
        self.same(tree.rows(), ROWS[:4] + ROWS[5:])
        tree.take_out("src")
        tree.take_out("doc/note")
        tree.take_out("doc/old")
        self.same(tree.rows(), ROWS[:2])

    def test_take_out_refused(self):
        tree = made()
        for value in any_values() + NO_PATHS:
            if not is_path(value) or value == "":
                self.fails(BadPath, (value,), tree.take_out, value)
        for path in NOWHERE:
            self.fails(NoEntry, (path,), tree.take_out, path)
        self.same(tree.rows(), ROWS)


def added(entry):
    def put(tree, path):
        tree += (path, entry)
    return put


class Whole(Case):
    def test_the_top_is_copied(self):
        top = Folder(0o700, "ann", "staff", a=File(0, "a", "a"))
        tree = Tree(top)
        top.set_mode(0)
        top["a"].set_mode(1)
        top.put("b", File(0, "a", "a"))
        self.same(tree.rows(), [("", "folder", 0o700, "ann", "staff"), ("a", "file", 0, "a", "a")])
        tree[""] = 5
        self.same(top.mode.number, 0)

    def test_copy(self):
        tree = made()
        other = tree.copy()
        self.assertIs(type(other), Tree)
        self.assertEqual(tree, other)
        other["doc/old/a"] = 0
        other.put("doc/more", File(0, "a", "a"))
        self.same(tree.rows(), ROWS)
        tree[""] = 1
        self.same(other[""].number, 0o700)

    def test_equal(self):
        self.same([made() == made(), made() != made()], [True, False])
        for path in PATHS:
            other = made()
            other[path] = 0o111
            self.same([made() == other, made() != other], [False, True])
            if path:
                other = made()
                other.take_out(path)
                self.same(made() == other, False)

    def test_equal_though_put_together_in_another_order(self):
        one, other = Tree(Folder(0, "a", "a")), Tree(Folder(0, "a", "a"))
        paths = ["a", "a/b", "c", "c/d", "c/e"]
        for path in paths:
            one.put(path, Folder(5, "a", "a"))
        for path in ("c", "c/e", "a", "c/d", "a/b"):
            other.put(path, Folder(5, "a", "a"))
        self.same([one == other, one.rows() == other.rows()], [True, True])

    def test_things_of_another_kind(self):
        tree = made()
        for value in any_values() + [tree.entry(""), tree.rows()]:
            self.same([tree == value, value == tree, tree != value], [False, False, True])

    def test_bar(self):
        ann, bob, chief = User("ann", "staff"), User("bob", "staff"), Chief("cy")
        tree = made()
        self.same([tree.bar(ann, path) for path in PATHS], [None, None, None, None, "doc/old", None])
        self.same([tree.bar(bob, path) for path in PATHS], [None, "", "", "", "", ""])
        self.same([tree.bar(chief, path) for path in PATHS], [None] * 6)
        tree[""] = 0o755
        self.same([tree.bar(bob, path) for path in PATHS], [None] * 6)
        tree["doc"] = 0o100
        self.same([tree.bar(user=bob, path=path) for path in PATHS], [None, None, "doc", "doc", "doc", None])
        tree[""] = 0o711
        self.same([tree.bar(bob, path) for path in PATHS], [None, "", "", "", "", ""])

    def test_bar_against_the_oracle(self):
        chance = random.Random(8)
        for _ in range(200):
            plain = walker.open_tree(chance)
            tree = builds.tree_of(plain)
            told = chance.choice(walker.USERS)
            for path in plain:
                above = ["/".join(path.split("/")[:k]) for k in range(len(path.split("/")))] if path else []
                wanted = [one for one in above if not walker.lists(told, plain[one])]
                self.same(tree.bar(builds.user_of(told), path), wanted[0] if wanted else None)


if __name__ == "__main__":
    unittest.main()
