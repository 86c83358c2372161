"""Points 2, 7 and 8, commands and their walks, and what modesdown/commands.py tells of them."""

import random
import unittest

from modesdown.changes import Change
from modesdown.commands import Command
from modesdown.errors import BadCommand
from modesdown.trees import File, Folder, Tree
from modesdown.users import Chief, User
from tests import builds, walker
from tests.case import Case, is_path
from tests.samples import any_values

ANN, BOB, ROOT = User("ann", "staff"), User("bob", "staff"), Chief("root")
STRIP = Change.read("a-x")
OPEN = Change.read("u+rx")


def is_start(value):
    return is_path(value) and value.count("/") < 3


class Made(Case):
    def test_parts(self):
        for user in (ANN, ROOT):
            for order in ("first", "last"):
                for kinds in ("all", "folders", "files"):
                    for start in ("", "a", "a/b", "a/b/c"):
                        command = Command(user, STRIP, order, kinds, start)
                        self.assertIs(command.user, user)
                        self.assertIs(command.change, STRIP)
                        self.same([command.order, command.kinds, command.start], [order, kinds, start])
                        named = Command(start=start, kinds=kinds, order=order, change=STRIP, user=user)
                        self.same(command == named, True)

    def test_defaults(self):
        command = Command(ANN, STRIP)
        self.same([command.order, command.kinds, command.start], ["first", "all", ""])
        self.same(command == Command(ANN, STRIP, "first", "all", ""), True)

    def test_class_values(self):
        self.same([Command.ORDERS, Command.KINDS], [("first", "last"), ("all", "folders", "files")])
        self.same([Command(ANN, STRIP).ORDERS, Command(ANN, STRIP).KINDS], [Command.ORDERS, Command.KINDS])

    def test_any_value_in_each_place(self):
        for value in any_values():
            if not isinstance(value, User):
                self.fails(BadCommand, ("user",), Command, value, STRIP)
                self.fails(BadCommand, ("user",), Command, value, value, value, value, value)
            if not isinstance(value, Change):
                self.fails(BadCommand, ("change",), Command, ANN, value)
                self.fails(BadCommand, ("change",), Command, ANN, value, 5, 5, 5)
            if not (type(value) is str and value in ("first", "last")):
                self.fails(BadCommand, ("order",), Command, ANN, STRIP, value)
                self.fails(BadCommand, ("order",), Command, ANN, STRIP, value, "none", "/")
            if not (type(value) is str and value in ("all", "folders", "files")):
                self.fails(BadCommand, ("kinds",), Command, ANN, STRIP, "last", value)
                self.fails(BadCommand, ("kinds",), Command, ANN, STRIP, "last", value, "/")
            if is_start(value):
                self.same(Command(ANN, STRIP, start=value).start, value)
            else:
                self.fails(BadCommand, ("start",), Command, ANN, STRIP, "last", "all", value)
                self.fails(BadCommand, ("start",), Command, ANN, STRIP, start=value)

    def test_near_misses(self):
        for order in ("First", "first ", "", "lasts"):
            self.fails(BadCommand, ("order",), Command, ANN, STRIP, order)
        for kinds in ("file", "folder", "ALL", "", "all,files"):
            self.fails(BadCommand, ("kinds",), Command, ANN, STRIP, "first", kinds)
        for start in ("/", "a/", "/a", "a//b", "A", ".", "a/b/c/d", "abcdefghi", "a b"):
            self.fails(BadCommand, ("start",), Command, ANN, STRIP, "first", "all", start)

    def test_properties_are_only_read(self):
        command = Command(ANN, STRIP)
        for name in ("user", "change", "order", "kinds", "start"):
            with self.assertRaises(AttributeError):
                setattr(command, name, "last")

    def test_equal(self):
        one = Command(User("ann", "a", "b"), STRIP, "last", "files", "a/b")
        self.same(one == Command(User("ann", "b", "a"), Change.read("a-x"), "last", "files", "a/b"), True)
        self.same(one != Command(User("ann", "b", "a"), Change.read("a-x"), "last", "files", "a/b"), False)
        for other in (
            Command(User("ann", "a"), STRIP, "last", "files", "a/b"), Command(one.user, OPEN, "last", "files", "a/b"),
            Command(Chief("ann", "a", "b"), STRIP, "last", "files", "a/b"), Command(one.user, STRIP, "first", "files", "a/b"),
            Command(one.user, STRIP, "last", "all", "a/b"), Command(one.user, STRIP, "last", "files", "a"),
            Command(one.user, Change.read("a-x,a-x"), "last", "files", "a/b"),
        ):
            self.same([one == other, one != other], [False, True])

    def test_things_of_another_kind(self):
        command = Command(BOB, STRIP)
        for value in any_values() + [BOB, STRIP]:
            self.same([command == value, value == command, command != value], [False, False, True])

    def test_means(self):
        told = {"all": (True, True), "folders": (False, True), "files": (True, False)}
        for kinds, (files, folders) in told.items():
            command = Command(ANN, STRIP, kinds=kinds)
            self.same([command.means("file"), command.means("folder"), command.means(form="file")], [files, folders, files])

    def test_may(self):
        for user, own, others in ((ANN, True, False), (ROOT, True, True), (Chief("ann"), True, True), (BOB, False, True)):
            for kinds in ("all", "folders", "files"):
                command = Command(user, STRIP, kinds=kinds)
                for one, form in ((File, "files"), (Folder, "folders")):
                    meant = kinds in ("all", form)
                    self.same(command.may(one(0, "ann", "bob")), meant and own)
                    self.same(command.may(entry=one(0o777, "bob", "ann")), meant and others)


class Walks(Case):
    def check(self, tree, command, events, behind=None):
        """Does the command to a tree of rows; what changes and stays is told by the events."""
        made = Tree.of(*tree)
        self.same(command(made), events)
        modes = {row[0]: row[2] for row in tree}
        for event in events:
            if event[0] == "changed":
                self.same(event[2], modes[event[1]])
                modes[event[1]] = event[3]
        self.same({path: made[path].number for path in modes}, modes)
        self.same([row[:2] + row[3:] for row in made.rows()], [row[:2] + row[3:] for row in Tree.of(*tree).rows()])

    def top(self, mode=0o700, owner="ann"):
        return ("", "folder", mode, owner, "staff")

    def test_names_ascending_and_both_orders(self):
        tree = [
            self.top(), ("b", "folder", 0o700, "ann", "a"), ("ab", "file", 1, "ann", "a"), ("b/c", "file", 2, "ann", "a"),
            ("a", "folder", 0o500, "ann", "a"), ("c", "file", 4, "ann", "a"),
        ]
        plus = Change.read("g+w")
        self.check(tree, Command(ANN, plus), [
            ("changed", "", 0o700, 0o720), ("changed", "a", 0o500, 0o520), ("changed", "ab", 1, 0o21),
            ("changed", "b", 0o700, 0o720), ("changed", "b/c", 2, 0o22), ("changed", "c", 4, 0o24),
        ])
        self.check(tree, Command(ANN, plus, "last"), [
            ("changed", "a", 0o500, 0o520), ("changed", "ab", 1, 0o21), ("changed", "b/c", 2, 0o22),
            ("changed", "b", 0o700, 0o720), ("changed", "c", 4, 0o24), ("changed", "", 0o700, 0o720),
        ])

    def test_the_three_kinds(self):
        tree = [self.top(), ("a", "folder", 0o700, "ann", "a"), ("a/b", "file", 0, "ann", "a"), ("c", "file", 0, "bob", "a")]
        plus = Change.read("o+w")
        folders = [("changed", "", 0o700, 0o702), ("changed", "a", 0o700, 0o702)]
        self.check(tree, Command(ANN, plus, kinds="folders"), folders)
        self.check(tree, Command(ANN, plus, "last", "folders"), folders[::-1])
        files = [("changed", "a/b", 0, 2), ("refused", "c")]
        self.check(tree, Command(ANN, plus, kinds="files"), files)
        self.check(tree, Command(ANN, plus, "last", "files"), files)
        self.check(tree, Command(ANN, plus), folders + files)

    def test_x_of_files_and_folders(self):
        tree = [self.top(), ("a", "file", 0o010, "ann", "a"), ("b", "file", 0, "ann", "a"), ("c", "folder", 0o500, "ann", "a")]
        self.check(tree, Command(ANN, Change.read("o+X")), [
            ("changed", "", 0o700, 0o701), ("changed", "a", 0o010, 0o011), ("changed", "b", 0, 0), ("changed", "c", 0o500, 0o501),
        ])

    def test_a_mode_that_stays_counts_as_changed(self):
        tree = [self.top(), ("a", "file", 0, "ann", "a")]
        self.check(tree, Command(ANN, Change.read("u+")), [("changed", "", 0o700, 0o700), ("changed", "a", 0, 0)])

    def test_losing_letters_ahead_of_the_children_or_behind_them(self):
        for text, after in (("u-x", 0o600), ("u-r", 0o300), ("u=", 0), ("u=w", 0o200)):
            tree = [self.top(), ("a", "file", 0, "bob", "a")]
            change = Change.read(text)
            self.check(tree, Command(ANN, change), [("changed", "", 0o700, after), ("barred", "")])
            self.check(tree, Command(ANN, change, "last"), [("refused", "a"), ("changed", "", 0o700, after)])

    def test_getting_letters_ahead_of_the_children_or_behind_them(self):
        for before in (0o600, 0o300, 0, 0o277):
            tree = [self.top(before), ("a", "file", 0, "bob", "a")]
            after = before | 0o500
            self.check(tree, Command(ANN, OPEN), [("changed", "", before, after), ("refused", "a")])
            self.check(tree, Command(ANN, OPEN, "last"), [("barred", ""), ("changed", "", before, after)])
            self.check(tree, Command(ANN, OPEN, "first", "files"), [("barred", "")])
            self.check(tree, Command(ANN, OPEN, "last", "files"), [("barred", "")])

    def test_a_folder_without_entries_bars(self):
        tree = [self.top(), ("a", "folder", 0o055, "ann", "staff"), ("b", "folder", 0o400, "ann", "staff")]
        self.check(tree, Command(ANN, Change.read("u+w")), [
            ("changed", "", 0o700, 0o700), ("changed", "a", 0o055, 0o255), ("barred", "a"),
            ("changed", "b", 0o400, 0o600), ("barred", "b"),
        ])
        self.check([self.top(0)], Command(ANN, STRIP, "last", "files"), [("barred", "")])

    def test_the_walk_goes_on_beside_what_barred_or_was_refused(self):
        tree = [
            self.top(0o755, "bob"), ("a", "folder", 0o700, "bob", "staff"), ("a/x", "file", 0, "ann", "a"),
            ("b", "folder", 0o050, "bob", "staff"), ("b/x", "file", 0, "ann", "a"), ("c", "file", 0, "ann", "a"),
        ]
        self.check(tree, Command(ANN, Change.read("o+r")), [
            ("refused", ""), ("refused", "a"), ("barred", "a"), ("refused", "b"), ("changed", "b/x", 0, 4),
            ("changed", "c", 0, 4),
        ])
        self.check(tree, Command(ANN, Change.read("o+r"), "last"), [
            ("barred", "a"), ("refused", "a"), ("changed", "b/x", 0, 4), ("refused", "b"), ("changed", "c", 0, 4), ("refused", ""),
        ])

    def test_a_chief_goes_everywhere(self):
        tree = [self.top(0), ("a", "folder", 0, "bob", "ops"), ("a/b", "folder", 0, "cy", "cy"), ("a/b/c", "file", 0, "cy", "cy")]
        self.check(tree, Command(ROOT, Change.read("u+w")), [
            ("changed", path, 0, 0o200) for path in ("", "a", "a/b", "a/b/c")
        ])
        self.check(tree, Command(ROOT, Change.read("u+w"), "last", "all", "a/b/c"), [("changed", "a/b/c", 0, 0o200)])

    def test_starts_that_are_there(self):
        tree = [
            self.top(0o755, "bob"), ("a", "folder", 0o711, "bob", "a"), ("a/b", "folder", 0o700, "ann", "a"),
            ("a/b/c", "file", 0, "ann", "a"), ("a/c", "file", 0, "ann", "a"), ("b", "file", 0, "ann", "a"),
        ]
        plus = Change.read("o+w")
        inside = [("changed", "a/b", 0o700, 0o702), ("changed", "a/b/c", 0, 2)]
        self.check(tree, Command(ANN, plus, start="a/b"), inside)
        self.check(tree, Command(ANN, plus, "last", start="a/b"), inside[::-1])
        self.check(tree, Command(ANN, plus, start="a/b/c"), inside[1:])
        self.check(tree, Command(ANN, plus, start="a/b/c", kinds="folders"), [])
        self.check(tree, Command(ANN, plus, start="b"), [("changed", "b", 0, 2)])
        # On the way x is enough, inside it is not.
        self.check(tree, Command(ANN, plus, start="a"), [("refused", "a"), ("barred", "a")])
        self.check(tree, Command(ANN, plus, start="a/c"), [("changed", "a/c", 0, 2)])

    def test_the_way_is_not_changed(self):
        tree = [self.top(), ("a", "folder", 0o100, "ann", "a"), ("a/b", "folder", 0o100, "ann", "a"), ("a/b/c", "file", 0, "ann", "a")]
        self.check(tree, Command(ANN, STRIP, start="a/b/c"), [("changed", "a/b/c", 0, 0)])

    def test_starts_that_are_missing(self):
        tree = [self.top(), ("a", "folder", 0o100, "ann", "a"), ("a/b", "file", 0o777, "ann", "a")]
        for start, path in (
            ("b", "b"), ("b/c", "b"), ("b/c/d", "b"), ("a/c", "a/c"), ("a/c/d", "a/c"), ("a/b/c", "a/b/c"), ("aa", "aa"),
        ):
            for order in ("first", "last"):
                self.check(tree, Command(ANN, STRIP, order, start=start), [("missing", path)])
        self.check([self.top(), ("f", "file", 0, "ann", "a")], Command(ANN, STRIP, start="f/g/h"), [("missing", "f/g")])

    def test_barred_on_the_way(self):
        tree = [self.top(), ("a", "folder", 0o677, "ann", "a"), ("a/b", "folder", 0o777, "ann", "a")]
        for start in ("a/b", "a/none", "a/b/c"):
            self.check(tree, Command(ANN, OPEN, start=start), [("barred", "a")])
            self.check(tree, Command(BOB, OPEN, start=start), [("barred", "")])
            self.check(tree, Command(ROOT, Change.read("u+"), start=start), {
                "a/b": [("changed", "a/b", 0o777, 0o777)], "a/none": [("missing", "a/none")], "a/b/c": [("missing", "a/b/c")],
            }[start])
        # The start itself bars only inside.
        self.check(tree, Command(ANN, Change.read("o-w"), start="a"), [("changed", "a", 0o677, 0o675), ("barred", "a")])

    def test_events_are_tuples_with_integers(self):
        tree = Tree.of(self.top(), ("a", "file", 0, "bob", "a"))
        events = Command(ANN, STRIP, "last")(tree=tree)
        self.assertIs(type(events), list)
        self.same(events, [("refused", "a"), ("changed", "", 0o700, 0o600)])

    def test_against_the_oracle(self):
        chance = random.Random(77)
        told = set()
        for _ in range(1500):
            plain = chance.choice([walker.random_tree, walker.open_tree])(chance)
            command = walker.random_command(chance)
            tree = builds.tree_of(plain)
            walk = walker.Walk(command, plain)
            self.same(builds.command_of(command)(tree), walk.events)
            self.same(builds.plain(tree), {path: plain[path] for path in plain})
            told.update(event[0] for event in walk.events)
        self.assertEqual(told, {"changed", "refused", "barred", "missing"})

    def test_sixty_folders_deep(self):
        path, rows = "", [self.top()]
        for _ in range(59):
            path = path + "/d" if path else "d"
            rows.append((path, "folder", 0o700, "ann", "a"))
        self.check(rows, Command(ANN, Change.read("o+r")), [("changed", row[0], 0o700, 0o704) for row in rows])
        self.check(rows, Command(ANN, Change.read("o+r"), "last"), [("changed", row[0], 0o700, 0o704) for row in rows[::-1]])


if __name__ == "__main__":
    unittest.main()
