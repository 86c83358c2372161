"""Points 2 and 17 and the heading modesdown/helps.py."""

import itertools
import random
import unittest

from modesdown.changes import Change
from modesdown.commands import Command
from modesdown.errors import BadUser, NoEntry
from modesdown.helps import Help, fewest_helpers, findings, helped, shows_help
from modesdown.trees import File, Folder, Tree
from modesdown.users import Chief, User
from tests import builds, walker
from tests.case import Case
from tests.samples import any_values, described, same

ANN, BOB, CY = User("ann", "staff"), User("bob", "staff"), Chief("cy")
GIVE = Change.read("a+rx")
PEOPLE = [
    (False, "ann", ("staff",)), (False, "bob", ("ops",)), (False, "staff", ()), (False, "dora", ("ann", "none")),
    (True, "cy", ()), (False, "zed", ("ops", "staff")), (False, "eve", ()),
]


def home():
    return Tree.of(("", "folder", 0o755, "ann", "staff"), ("a", "folder", 0o700, "bob", "staff"),
                   ("a/b", "folder", 0o700, "ann", "staff"), ("a/b/c", "file", 0o600, "ann", "staff"))


def found(tree, user, path=""):
    """The paths that a user finds in a plain tree, in its order."""
    paths = [path]
    if tree[path][0] == "folder" and walker.lists(user, tree[path]):
        for below in walker.children(tree, path):
            paths += found(tree, user, below)
    return paths


def given(tree, helpers):
    """Point 17 without turns: all that can be opened is opened. The tree is changed."""
    more = True
    while more:
        more = False
        for helper in helpers:
            for path in found(tree, helper):
                form, mode, owner, group = tree[path]
                if form == "folder" and walker.may_change(helper, tree[path]) and mode & 0o555 != 0o555:
                    tree[path][1] = mode | 0o555
                    more = True


def turns(tree, helpers):
    """The indexes of the helpers whose commands change a mode, turn by turn. The tree is changed."""
    told = []
    while True:
        before = len(told)
        for k, helper in enumerate(helpers):
            events = walker.Walk((helper, "a+rx", "first", "folders", ""), tree).events
            if any(event[0] == "changed" and event[2] != event[3] for event in events):
                told.append(k)
        if len(told) == before:
            return told


def barred(tree, people):
    bars = [
        (one[1], path) for one in people for path in found(tree, one)
        if tree[path][0] == "folder" and not walker.lists(one, tree[path])
    ]
    return sorted(set(bars))


def drawn(chance):
    """A plain tree whose owners are people, a user and some helpers."""
    tree = walker.random_tree(chance, 14)
    for entry in tree.values():
        entry[2] = chance.choice(["ann", "bob", "staff", "dora", "other"])
        if chance.random() < 0.5:
            entry[1] = chance.choice([0, 0o700, 0o500, 0o755, 0o750, 0o555, 0o711])
    tree[""][1] |= chance.choice([0, 0o555, 0o555, 0o555])
    many = chance.choice([0, 1, 2, 2, 3, 3, 4, 6])
    return tree, chance.choice(PEOPLE), chance.sample(PEOPLE, many)


def drawn_chain(chance):
    """Folders one below the other, most of them closed, a user and some helpers."""
    tree, path = {}, ""
    for _ in range(chance.randint(3, 6)):
        tree[path] = ["folder", chance.choice([0o700, 0o700, 0o500, 0, 0o755]), chance.choice(["ann", "bob", "staff", "dora"]), "ops"]
        path = path + "/a" if path else "a"
    return tree, chance.choice(PEOPLE), chance.sample(PEOPLE[:4] + PEOPLE[5:], chance.randint(2, 6))


class Findings(Case):
    def test_against_walks_down(self):
        chance = random.Random(121)
        seen = set()
        for _ in range(200):
            tree, user, _ = drawn(chance)
            made = builds.tree_of(tree)
            got = list(findings(made, builds.user_of(user)))
            self.same(got, found(tree, user))
            order = [path for path, entry in made.entries()]
            self.same(got, [path for path in order if path in got])
            seen.add(len(got))
        self.assertGreater(len(seen), 6)

    def test_folder_by_folder(self):
        self.same([list(findings(home(), ANN)), list(findings(home(), BOB))], [["", "a"], ["", "a", "a/b"]])
        self.same(list(findings(home(), CY)), ["", "a", "a/b", "a/b/c"])
        self.same(list(findings(user=ANN, tree=Tree(Folder(0, "ann", "g", a=File(0, "ann", "g"))))), [""])
        wide = Tree(Folder(0o500, "ann", "g", b=File(0, "x", "x"), a=Folder(0o500, "ann", "g", z=File(0, "x", "x")), ab=Folder(0, "x", "x")))
        self.same(list(findings(wide, ANN)), ["", "a", "a/z", "ab", "b"])

    def test_r_and_x_of_the_class_alone(self):
        for mode in range(512):
            tree = Tree(Folder(mode, "ann", "staff", a=File(0, "x", "x")))
            for user in (ANN, BOB, User("eve"), CY):
                self.same(list(findings(tree, user)), ["", "a"] if user.lists(mode, "ann", "staff") else [""])

    def test_behind_modes_that_are_set(self):
        tree = home()
        tree["a"] = 0o705
        self.same(list(findings(tree, User("eve"))), ["", "a", "a/b"])
        tree[""] = 0o750
        self.same(list(findings(tree, User("eve"))), [""])


class Helped(Case):
    def test_against_turns_and_what_can_be_opened(self):
        chance = random.Random(122)
        seen = set()
        for _ in range(250):
            tree, user, helpers = drawn(chance)
            made = builds.tree_of(tree)
            before = made.rows()
            people = [builds.user_of(one) for one in helpers]
            got = helped(made, builds.user_of(user), *people)
            self.assertIs(type(got), Help)
            self.same(made.rows(), before)
            behind, opened = builds.copied(tree), builds.copied(tree)
            told = turns(behind, helpers)
            given(opened, helpers)
            self.same(behind, opened)
            self.same(got.paths, tuple(found(behind, user)))
            self.same(got.commands, [Command(people[k], GIVE, kinds="folders") for k in told])
            self.same(got.bars, barred(behind, [user] + helpers))
            self.same(bool(got), len(got.paths) == len(tree))
            self.good(behind, helpers, got.bars)
            self.same(shows_help(made, builds.user_of(user), people, got.paths, got.commands, got.bars), True)
            seen.add((bool(got), len(told) > 2, len(got.bars) > 1))
        self.assertGreaterEqual(len(seen), 5)

    def good(self, tree, helpers, bars):
        """The fact of point 17."""
        for name, path in bars:
            for helper in helpers:
                if path in found(tree, helper):
                    self.assertFalse(helper[0] or helper[1] == tree[path][2])

    def test_the_user_among_the_helpers(self):
        told = helped(home(), ANN, BOB, ANN)
        self.same([told.paths, [one.user.name for one in told.commands], told.bars, bool(told)],
                  [("", "a", "a/b", "a/b/c"), ["bob", "ann"], [], True])
        self.same(helped(home(), ANN, ANN).bars, [("ann", "a")])
        self.same(helped(home(), User("ann", "a", "b"), User("ann", "b", "a")).bars, [("ann", "a")])

    def test_without_helpers(self):
        told = helped(home(), BOB)
        self.same([told.paths, told.commands, told.bars, bool(told)], [("", "a", "a/b"), [], [("bob", "a/b")], False])
        self.same([bool(helped(home(), CY)), helped(home(), CY).bars], [True, []])
        self.same(bool(helped(Tree(Folder(0, "x", "x")), ANN)), True)
        self.same(helped(Tree(Folder(0, "x", "x")), ANN).bars, [("ann", "")])

    def test_what_a_helper_bars_is_told_as_well(self):
        told = helped(home(), CY, User("zed"), ANN)
        self.same([told.bars, told.paths], [[("ann", "a"), ("zed", "a")], ("", "a", "a/b", "a/b/c")])
        self.same([bool(told), [one.user.name for one in told.commands]], [True, []])

    def test_a_chief_opens_all(self):
        told = helped(home(), ANN, CY)
        self.same([bool(told), told.bars, len(told.commands)], [True, [], 1])
        self.same(told.commands, [Command(CY, GIVE, "first", "folders", "")])

    def test_helpers_in_a_chain_that_open_for_one_another(self):
        names = ["ann", "bob", "dora", "eve", "fay", "gus"]
        top = File(0, "ann", "g")
        for name in names[::-1]:
            top = Folder(0o700, name, "g", a=top)
        tree = Tree(top)
        people = [User(name) for name in names]
        told = helped(tree, User("zed"), *people)
        self.same([bool(told), [one.user.name for one in told.commands], told.bars], [True, names, []])
        turned = helped(tree, User("zed"), *people[::-1])
        # In each turn one more helper finds an own folder.
        self.same([bool(turned), [one.user.name for one in turned.commands]], [True, names])
        less = helped(tree, User("zed"), *people[:3], *people[4:])
        self.same([less.paths[-1], bool(less)], ["a/a/a", False])
        self.same(less.bars, [(name, "a/a/a") for name in ["ann", "bob", "dora", "fay", "gus", "zed"]])

    def test_only_folders_are_opened_and_w_stays(self):
        tree = Tree(Folder(0o720, "ann", "g", a=File(0o200, "ann", "g"), b=Folder(0o020, "ann", "g")))
        told = helped(tree, User("zed"), User("ann"))
        self.same(told.paths, ("", "a", "b"))
        made = tree.copy()
        for command in told.commands:
            command(made)
        self.same([made[path].number for path in ("", "a", "b")], [0o775, 0o200, 0o575])

    def test_it_stays_when_the_tree_is_changed_behind(self):
        tree = home()
        told = helped(tree, ANN, BOB)
        before = described([told.paths, told.bars, [str(one.change) for one in told.commands], bool(told)])
        tree[""] = 0
        tree.take_out("a")
        self.same(described([told.paths, told.bars, [str(one.change) for one in told.commands], bool(told)]), before)

    def test_lists_are_the_caller_s_own(self):
        told = helped(home(), User("eve"), ANN, BOB)
        bars, commands = told.bars, told.commands
        told.bars.append(5)
        told.commands.clear()
        bars.append(("eve", "b"))
        commands.append(None)
        self.same([len(told.commands), told.bars], [2, []])
        for name in ("paths", "commands", "bars"):
            with self.assertRaises(AttributeError):
                setattr(told, name, ())

    def test_the_first_helper_who_is_none_or_stands_twice(self):
        for value in any_values():
            if not isinstance(value, User):
                self.fails(BadUser, (0,), helped, home(), ANN, value)
                self.fails(BadUser, (0,), helped, home(), ANN, value, BOB, BOB)
                self.fails(BadUser, (2,), helped, home(), ANN, BOB, ANN, value, CY, CY)
                self.fails(BadUser, (1,), fewest_helpers, home(), ANN, "a", BOB, value)
        for helpers, at in (
            ((BOB, BOB), 1), ((ANN, BOB, Chief("ann")), 2), ((ANN, User("ann", "x"), ANN), 1), ((CY, BOB, ANN, User("bob")), 3),
        ):
            self.fails(BadUser, (at,), helped, home(), ANN, *helpers)
            self.fails(BadUser, (at,), fewest_helpers, home(), ANN, "a", *helpers)


class Fewest(Case):
    def test_against_all_choices(self):
        chance = random.Random(123)
        seen = set()
        for k in range(160):
            tree, user, helpers = drawn(chance) if k % 2 else drawn_chain(chance)
            made, people = builds.tree_of(tree), [builds.user_of(one) for one in helpers]
            before = made.rows()
            for path in tree:
                got = fewest_helpers(made, builds.user_of(user), path, *people)
                wanted = self.searched(tree, user, path, helpers)
                self.same(got, wanted)
                seen.add(got if got is None else len(got))
            self.same(made.rows(), before)
        self.assertLessEqual({None, 0, 1, 2}, seen)

    def searched(self, tree, user, path, helpers):
        for many in range(len(helpers) + 1):
            for indexes in itertools.combinations(range(len(helpers)), many):
                behind = builds.copied(tree)
                given(behind, [helpers[at] for at in indexes])
                if path in found(behind, user):
                    return indexes
        return None

    def test_by_hand(self):
        self.same([fewest_helpers(home(), ANN, "a/b/c", ANN, BOB), fewest_helpers(home(), ANN, "a/b", ANN)], [(1,), None])
        self.same([fewest_helpers(home(), ANN, path, BOB, CY) for path in ("", "a", "a/b", "a/b/c")], [(), (), (0,), (0,)])
        self.same(fewest_helpers(home(), User("eve"), "a/b/c", ANN, BOB), (0, 1))
        self.same([fewest_helpers(home(), User("eve"), "a/b/c", ANN, BOB, CY), fewest_helpers(home(), User("eve"), "a/b/c")], [(2,), None])
        self.same(fewest_helpers(home(), BOB, "a/b", CY), ())

    def test_all_six_are_needed(self):
        names = ["ann", "bob", "dora", "eve", "fay", "gus"]
        top = File(0, "ann", "g")
        for name in names[::-1]:
            top = Folder(0o700, name, "g", a=top)
        people = [User(name) for name in names]
        self.same(fewest_helpers(Tree(top), User("zed"), "/".join("aaaaaa"), *people[::-1]), (0, 1, 2, 3, 4, 5))
        self.same(fewest_helpers(Tree(top), User("zed"), "a/a/a", *people[::-1]), (3, 4, 5))
        self.same(fewest_helpers(Tree(top), User("zed"), "/".join("aaaaaa"), *people[1:]), None)

    def test_no_entry_with_any_value_first(self):
        for value in any_values() + ["b", "a/c", "a/b/c/d"]:
            if not (type(value) is str and value in ("", "a")):
                self.fails(NoEntry, (value,), fewest_helpers, Tree(Folder(0, "x", "x", a=File(0, "x", "x"))), ANN, value)
                self.fails(NoEntry, (value,), fewest_helpers, Tree(Folder(0, "x", "x", a=File(0, "x", "x"))), ANN, value, None, ANN)


def plainly_shown(tree, user, helpers, paths, commands, bars):
    """What point 17 and the heading tell of shows_help, for plain commands; each is a tuple as in tests.walker."""
    behind = builds.copied(tree)
    for command in commands:
        if command[4] != "" or not any(self_same(command[0], helper) for helper in helpers):
            return False
        walker.Walk(command, behind)
    people = [user] + [helper for helper in helpers if helper[1] != user[1]]
    if paths != tuple(found(behind, user)) or bars != barred(behind, people):
        return False
    for name, path in bars:
        for helper in helpers:
            if path in found(behind, helper) and (helper[0] or helper[1] == behind[path][2]):
                return False
    return True


def self_same(one, other):
    return one[:2] == other[:2] and sorted(one[2]) == sorted(other[2])


class Shown(Case):
    def check(self, tree, user, helpers, paths, commands, bars):
        wanted = plainly_shown(tree, user, helpers, paths, commands, bars)
        people, given_ones = [builds.user_of(one) for one in helpers], [builds.command_of(one) for one in commands]
        made = builds.tree_of(tree)
        got = shows_help(made, builds.user_of(user), people, paths, given_ones, bars)
        self.same(got, wanted)
        self.same(shows_help(made, builds.user_of(user), tuple(people), paths, tuple(given_ones), bars), wanted)
        self.same(builds.plain(made), tree)
        return wanted

    def test_papers_with_one_part_otherwise(self):
        chance = random.Random(124)
        seen = []
        for _ in range(150):
            tree, user, helpers = drawn(chance)
            behind = builds.copied(tree)
            commands = [(helpers[k], "a+rx", "first", "folders", "") for k in turns(behind, helpers)]
            paths, bars = tuple(found(behind, user)), barred(behind, [user] + helpers)
            self.assertTrue(self.check(tree, user, helpers, paths, commands, bars))
            changed = []
            for k in range(len(commands)):
                changed.append((paths, commands[:k] + commands[k + 1:], bars))
                changed.append((paths, commands[:k] + [(*commands[k][:2], "last", *commands[k][3:])] + commands[k + 1:], bars))
            if helpers:
                one = chance.choice(helpers)
                for text in ("a-x", "u+rx", "a+rx", "go=", "a+x"):
                    more = (one, text, chance.choice(["first", "last"]), chance.choice(["all", "folders", "files"]), "")
                    changed.append((paths, commands + [more], bars))
                    changed.append((paths, [more] + commands, bars))
                changed.append((paths, commands + [(one, "a+rx", "first", "folders", "a")], bars))
                changed.append((paths, commands[::-1], bars))
                changed.append((paths, commands * 2, bars))
            changed.append((paths, commands + [((False, "none", ()), "a+rx", "first", "folders", "")], bars))
            for k in range(len(paths)):
                changed.append((paths[:k] + paths[k + 1:], commands, bars))
            changed += [(paths + ("q",), commands, bars), (paths[::-1], commands, bars), (paths + paths[-1:], commands, bars)]
            for k in range(len(bars)):
                changed.append((paths, commands, bars[:k] + bars[k + 1:]))
                changed.append((paths, commands, bars[:k] + bars[k:k + 1] + bars[k:]))
            changed += [(paths, commands, bars[::-1]), (paths, commands, bars + [("zz", "")]), (paths, commands, sorted(bars + [(user[1], "")]))]
            for told in changed:
                seen.append(self.check(tree, user, helpers, *told))
        self.assertGreater(seen.count(True), 300)
        self.assertGreater(seen.count(False), 1000)

    def test_nothing_may_be_left_to_open(self):
        # Without commands ann finds just this, but the bar is bob's own folder, and he finds it.
        self.same(shows_help(home(), ANN, [BOB], ("", "a"), [], [("ann", "a"), ("bob", "a/b")]), False)
        self.same(shows_help(home(), ANN, [], ("", "a"), [], [("ann", "a")]), True)
        self.same(shows_help(home(), ANN, [User("eve")], ("", "a"), [], [("ann", "a"), ("eve", "a")]), True)
        self.same(shows_help(home(), ANN, [ANN], ("", "a"), (), [("ann", "a")]), True)
        self.same(shows_help(home(), ANN, [CY], ("", "a"), [], [("ann", "a")]), False)
        give = Command(BOB, GIVE, kinds="folders")
        self.same(shows_help(home(), ANN, [BOB], ("", "a", "a/b", "a/b/c"), [give], [("bob", "a/b")]), True)

    def test_other_commands_of_helpers_may_do_as_well(self):
        more = Command(BOB, Change.read("o+rx,g+rx,u=rwx"), "last", "all")
        self.same(shows_help(home(), ANN, [BOB], ("", "a", "a/b", "a/b/c"), [more], [("bob", "a/b")]), True)
        self.same(shows_help(home(), ANN, [User("bob", "staff", "x")], ("", "a", "a/b", "a/b/c"), [more], [("bob", "a/b")]), False)
        twice = User("bob", "x", "staff")
        self.same(shows_help(home(), ANN, [User("bob", "staff", "x")], ("", "a", "a/b", "a/b/c"), [Command(twice, GIVE)],
                             [("bob", "a/b")]), True)
        self.same(shows_help(home(), ANN, [twice], ("", "a", "a/b", "a/b/c"), [Command(Chief("bob", "x", "staff"), GIVE)],
                             [("bob", "a/b")]), False)

    def test_kinds_of_values(self):
        give = Command(BOB, GIVE, kinds="folders")
        paths, bars = ("", "a", "a/b", "a/b/c"), [("bob", "a/b")]
        self.same(shows_help(home(), ANN, (BOB,), paths, (give,), bars), True)
        self.same(shows_help(bars=bars, commands=[give], paths=paths, helpers=[BOB], user=ANN, tree=home()), True)
        for told in (
            (list(paths), [give], bars), (paths, [give], tuple(bars)), (paths, [give], [["bob", "a/b"]]), (paths, {0: give}, bars),
            (paths, give, bars), (paths, [give, None], bars), (paths, [give], [("bob", "a/b", "")]), (paths, [give], [("bob",)]),
        ):
            self.same(shows_help(home(), ANN, [BOB], *told), False)
        for value in any_values():
            self.same(shows_help(home(), ANN, [BOB], value, [give], bars), same(value, paths))
            self.same(shows_help(home(), ANN, [BOB], paths, value, bars), False)
            self.same(shows_help(home(), ANN, [BOB], paths, [value], bars), False)
            self.same(shows_help(home(), ANN, [BOB], paths, [give], value), False)
            self.same(shows_help(home(), ANN, [BOB], paths, [give], [value]), False)
            self.same(shows_help(home(), ANN, [BOB], paths, [give], [("bob", value)]), same(value, "a/b"))
            self.same(shows_help(home(), CY, [], paths, value, []), value == [] or value == ())
            self.same(shows_help(home(), CY, [], paths, [], value), same(value, []))


if __name__ == "__main__":
    unittest.main()
