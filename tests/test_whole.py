"""Points 1 and 2 over the whole program."""

import random
import unittest

from modesdown import errors
from modesdown.alike import Held, Parted, alike, at_most, exchanged, needless
from modesdown.back import least_row, leads_back
from modesdown.changes import Change, Clause, parting
from modesdown.commands import Command, Row
from modesdown.desk import Desk
from modesdown.errors import BadName, BadMode, BadPath, ModesError, NoEntry, TooMany
from modesdown.far import Beat, beats, comings, far, far_mode, round_of, shows_comings
from modesdown.foldertypes import FolderType, folder_types, spare
from modesdown.helps import fewest_helpers, findings, helped, shows_help
from modesdown.kinds import Kind, Line
from modesdown.lasting import ends_in, never_lost, settles
from modesdown.lookers import (
    is_chain, is_closed, shows_alike, shows_at_most, shows_ends_in, shows_exchanged, shows_led_back, shows_needless,
    shows_never_lost,
)
from modesdown.modes import Mode
from modesdown.stands import Stands, agree, is_below
from modesdown.texts import read_kind, read_row, read_tree, report, write_kind, write_row, write_tree
from modesdown.trees import File, Folder, Tree
from modesdown.users import Chief, User
from modesdown.waves import fed, shows_wave, wave, wave_chain
from modesdown.words import Passage, behind, reckoned, stand_of, word_of, words
from tests import builds, joints, walker
from tests.case import Case
from tests.samples import any_values, same
from tests.test_back import drawn as drawn_back
from tests.test_lasting import random_goal
from tests.test_lookers import drawn_rows
from tests.test_stands import USERS

ANN, BOB, CY = User("ann", "staff"), User("bob", "staff", "ops"), Chief("cy")
LATE = Row(Command(User("ann"), Change.read("u+rx"), "last"))
CLOSED = ("folder", Mode(0), "ann", "q")


def small():
    return Tree(Folder(0o755, "ann", "staff", a=Folder(0o700, "bob", "staff", b=File(0o640, "ann", "g")), c=File(0o600, "bob", "g")))


def told(value):
    """A text that tells a value whole."""
    if isinstance(value, (list, tuple)):
        return f"{type(value).__name__}({', '.join(told(part) for part in value)})"
    if isinstance(value, dict):
        return told(["dict", *sorted((told(key), told(part)) for key, part in value.items())])
    if isinstance(value, (Mode, Clause, Change, FolderType)):
        return f"{type(value).__name__} {value}"
    if isinstance(value, User):
        return f"{type(value).__name__} {value.name} {value.groups}"
    if isinstance(value, Command):
        return told([value.user, value.change, value.order, value.kinds, value.start])
    if isinstance(value, Row):
        return told(["row", *[value[k] for k in range(len(value))]])
    if isinstance(value, Tree):
        return told(["tree", *value.rows()])
    if isinstance(value, (File, Folder)):
        children = [(name, value[name]) for name in value.names()] if isinstance(value, Folder) else None
        return told([value.form, value.mode, value.owner, value.group, children])
    if isinstance(value, Line):
        return told([value.form, value.owners, value.groups, value.must, value.never])
    if isinstance(value, Kind):
        return told(["kind", *value.lines])
    if isinstance(value, (Held, Parted)):
        return told(["verdict", value.paper])
    if isinstance(value, Beat):
        return told([value.lead, value.period, value.answers])
    if isinstance(value, Desk):
        return told([value.tree_copy(), value.row, value.kind])
    return repr(value)


def parts():
    """Things that are handed to the calls below, made anew."""
    row = Row(Command(ANN, Change.read("a-x")), Command(BOB, Change.read("u+rX"), "last", "all", "a"))
    kind = Kind(Line("folder", ["ann", "bob"], None, 0o500), Line("file"))
    return {
        "tree": small(), "row": row, "other": row * 2, "kind": kind, "goal": Kind(Line("folder"), Line("file", None, ["g"])),
        "command": Command(CY, Change.read("u=g,g=o,o=u")), "helpers": [BOB, CY], "entry": Folder(0o700, "ann", "g", z=File(7, "x", "y")),
        "owners": ["ann", "bob"], "block": [CLOSED], "menu": [row[0], row[1]], "joint": (((0, 0),),), "rows": [row], "names": ["q", "qa"],
        "paper": alike(row, row * 2, kind).paper, "listed": Stands(kind, row).listed, "chain": never_lost(row, kind).chain,
        "commands": helped(small(), ANN, BOB).commands, "bars": helped(small(), ANN, BOB).bars, "paths": helped(small(), ANN, BOB).paths,
        "steps": beats(small(), Command(CY, Change.read("u+")), "a/b"), "wave": wave(LATE, Kind.every()), "words": ((0,), ()),
    }


# Calls that change none of these things, with what is handed in.
CALLS = [
    lambda p: Line("folder", p["owners"], p["owners"]), lambda p: p["kind"] | p["goal"], lambda p: p["kind"] & p["goal"],
    lambda p: p["kind"].holds(p["tree"]), lambda p: p["entry"] in p["kind"], lambda p: Tree(p["entry"]), lambda p: p["tree"].copy(),
    lambda p: p["entry"].copy(), lambda p: Folder(7, "x", "y", a=p["entry"], b=p["entry"]), lambda p: p["row"] + p["other"], lambda p: p["row"] * 3,
    lambda p: p["row"].without(0), lambda p: p["command"] + p["row"], lambda p: stand_of(p["row"], p["tree"], "a/b"),
    lambda p: word_of(p["row"], p["tree"], "a/b"), lambda p: list(words(p["row"], p["tree"])), lambda p: reckoned(p["row"], p["tree"]),
    lambda p: behind(p["row"], (0, 0), p["entry"]), lambda p: list(Passage(p["row"], (0, 0), 0o755, "ann", "g").steps()),
    lambda p: spare(p["names"]), lambda p: list(folder_types(p["kind"], p["row"]))[:3], lambda p: Stands(p["kind"], p["row"], p["other"]).listed,
    lambda p: agree(p["kind"], p["row"], p["other"], ((0, 0), (0, 0, 0, 0)), "file"),
    lambda p: is_below(p["kind"], p["row"], p["other"], ((0, 0), (0, 0, 0, 0)), "file"), lambda p: alike(p["row"], p["other"], p["kind"]),
    lambda p: at_most(p["row"], p["other"], p["kind"]), lambda p: needless(p["row"], 0, p["kind"]), lambda p: exchanged(p["row"], 0, p["kind"]),
    lambda p: never_lost(p["row"], p["kind"]), lambda p: ends_in(p["row"], p["goal"], p["kind"]), lambda p: settles(p["row"], 2, p["kind"]),
    lambda p: fed(LATE, p["block"], (0,), (), (0,)), lambda p: wave(LATE, p["kind"]), lambda p: shows_wave(LATE, p["kind"], p["wave"]),
    lambda p: wave_chain(p["block"], CLOSED, 3), lambda p: beats(p["tree"], p["command"], "a/b"),
    lambda p: comings(p["tree"], p["command"], "a/b", 10 ** 20), lambda p: round_of(p["tree"], p["command"], "a/b", 3),
    lambda p: far(p["tree"], p["command"], 7), lambda p: far_mode(p["tree"], p["command"], "a", 7),
    lambda p: shows_comings(p["tree"], p["command"], "a/b", p["steps"], 7, 7), lambda p: leads_back(p["row"], p["row"], p["command"], p["kind"]),
    lambda p: least_row(p["menu"], lambda row: leads_back(row, Row(), p["command"], p["kind"]), 1), lambda p: list(findings(p["tree"], ANN)),
    lambda p: helped(p["tree"], ANN, *p["helpers"]).paths, lambda p: fewest_helpers(p["tree"], ANN, "a/b", *p["helpers"]),
    lambda p: shows_help(p["tree"], ANN, [BOB], p["paths"], p["commands"], p["bars"]), lambda p: is_closed(p["kind"], p["rows"], p["listed"]),
    lambda p: is_chain(p["kind"], p["chain"]), lambda p: shows_alike(p["row"], p["other"], p["paper"], p["kind"]),
    lambda p: shows_at_most(p["row"], p["other"], p["paper"], p["kind"]), lambda p: shows_needless(p["row"], 0, p["paper"], p["kind"]),
    lambda p: shows_exchanged(p["row"], 0, p["paper"], p["kind"]), lambda p: shows_never_lost(p["row"], ("no", p["chain"]), p["kind"]),
    lambda p: shows_ends_in(p["row"], p["goal"], ("yes", p["listed"]), p["kind"]),
    lambda p: shows_led_back(p["row"], p["row"], p["command"], ("yes", p["listed"]), p["kind"]), lambda p: write_tree(p["tree"]),
    lambda p: write_row(p["row"]), lambda p: write_kind(p["kind"]), lambda p: report(p["row"], p["kind"]),
    lambda p: Desk(p["tree"]).run("chief cy", "set a ---------", "do cy first all . a=", "tree"), lambda p: parting(p["row"][0].change, p["command"].change),
    lambda p: p["command"].change.cycle("file"), lambda p: p["tree"].bar(ANN, "a/b"), lambda p: Parted(p["chain"]).as_tree(),
    lambda p: p["command"].may(p["entry"]), lambda p: p["kind"].folder_modes("ann", "g"), lambda p: p["kind"].lines[0].patterns("r"),
]


class Arguments(Case):
    def test_arguments_are_never_modified(self):
        for k, call in enumerate(CALLS):
            handed = parts()
            before = {name: told(value) for name, value in handed.items()}
            one = told(call(handed))
            self.assertEqual({name: told(value) for name, value in handed.items()}, before, k)
            # The same once more, and for equal arguments.
            self.assertEqual([told(call(handed)), told(call(parts()))], [one, one], k)

    def test_what_is_returned_is_the_caller_s_own(self):
        for k, call in enumerate(CALLS):
            handed = parts()
            got = call(handed)
            before, kept = told(got), {name: told(value) for name, value in handed.items()}
            self.spoil(got)
            self.assertEqual({name: told(value) for name, value in handed.items()}, kept, k)
            self.assertEqual(told(call(handed)), before, k)

    def spoil(self, value):
        """Changes all that can be changed of a value."""
        if isinstance(value, tuple):
            for part in value:
                self.spoil(part)
        elif isinstance(value, list):
            for part in value:
                self.spoil(part)
            value.append("more")
        elif isinstance(value, Tree):
            for path in [path for path, entry in value.entries()]:
                value[path] = 0o123
            value.put("spoiled", File(0, "x", "x"))
        elif isinstance(value, (File, Folder)):
            value.set_mode(0o123)

    def test_what_is_done_to_arguments_afterwards_changes_nothing(self):
        owners, names = ["ann", "bob"], ["q"]
        line, entry = Line("folder", owners, owners), Folder(7, "x", "y")
        tree, top, block = Tree(entry), Folder(5, "x", "y", a=entry), [CLOSED]
        chain, yields, desk, taken = wave_chain(block, CLOSED, 2), fed(LATE, block, (0,)), Desk(tree), spare(names)
        helpers = [BOB]
        shown = helped(small(), ANN, *helpers)
        for one in (owners, names, block, helpers):
            one.clear()
        entry.set_mode(0)
        entry.put("b", File(0, "x", "y"))
        tree.put("c", File(0, "x", "y"))
        self.same([line.owners, line.groups, tree.rows()[0][2], top["a"].mode.number, len(top["a"])], [("ann", "bob")] * 2 + [7, 7, 0])
        self.same([chain.size(), yields, desk.tree_copy().size(), taken, shown.commands[0].user], [3, [()], 1, "qa", BOB])


class Errors(Case):
    def test_a_call_that_raises_changes_no_object(self):
        full = Tree(Folder(0, "a", "a", **{one + two: File(0, "a", "a") for one in "abcdefgh" for two in "abcdefg"}))
        while full.size() < 60:
            full.put("y" * (full.size() - 56), File(0, "a", "a"))
        for error, call in (
            (NoEntry, lambda tree: tree.__setitem__("zz", 0)), (BadPath, lambda tree: tree.__setitem__("Z", 0)),
            (BadMode, lambda tree: tree.__setitem__("", 512)), (BadMode, lambda tree: tree.entry("").set_mode(-1)),
            (NoEntry, lambda tree: tree.put("zz/a", File(0, "a", "a"))), (BadPath, lambda tree: tree.put("", File(0, "a", "a"))),
            (TooMany, lambda tree: tree.put("zy", File(0, "a", "a"))), (NoEntry, lambda tree: tree.take_out("zy")),
            (BadName, lambda tree: tree.entry("").put("A", File(0, "a", "a"))), (TooMany, lambda tree: tree.entry("").put("zy", File(0, "a", "a"))),
            (NoEntry, lambda tree: far_mode(tree, LATE[0], "zy", 5)), (NoEntry, lambda tree: stand_of(LATE, tree, "zy")),
            (errors.BadUser, lambda tree: helped(tree, ANN, CY, None)), (NoEntry, lambda tree: fewest_helpers(tree, ANN, "zy", CY)),
            (BadPath, lambda tree: tree.bar(ANN, "/")), (NoEntry, lambda tree: tree["zy"]),
        ):
            before = full.rows()
            with self.assertRaises(error):
                call(full)
            self.same(full.rows(), before)
        self.same(full.size(), 60)

    def test_all_errors_are_of_the_package(self):
        for text in ("", "x", "drwx ann", "none\n"):
            for reader in (read_tree, read_row, read_kind):
                with self.assertRaises(ModesError):
                    reader(text)

    def test_the_name_and_the_word_of_an_error_are_what_was_passed(self):
        # A user's name and a passage's word are never assigned, an error's fields are.
        for value in any_values():
            error = errors.BadText(value, value)
            self.assertTrue(errors.BadName(value).name is value and error.word is value and error.line is value)
            error.word = 7
            self.same(error.word, 7)
        for one, name in ((ANN, "name"), (CY, "name"), (Passage(LATE, (0,), 0, "ann", "g"), "word")):
            before = told(getattr(one, name))
            with self.assertRaises(AttributeError):
                setattr(one, name, "bob")
            self.same(told(getattr(one, name)), before)


class Equality(Case):
    def test_nothing_equals_what_is_of_another_kind(self):
        row = Row(Command(ANN, Change.read("u+r")))
        things = [
            Mode(5), Clause("u", "+", "r"), Change.read("u+r"), User("ann"), Chief("ann"), File(5, "ann", "g"), Folder(5, "ann", "g"),
            Tree(Folder(5, "ann", "g")), row[0], row, Passage(row, (0,), 5, "ann", "g"), Line("file"), Kind(Line("file")),
            FolderType("ann", "g", Mode(5)), Stands(Kind.every(), row), Held(()), Parted(()), Beat(0, 1, (True,)), helped(small(), ANN), Desk(small()),
        ]
        for k, one in enumerate(things):
            for at, other in enumerate(things):
                self.same([one == other, one != other], [k == at, k != at])
            for value in (5, "ann", "u+r", "rwx", (), [], {}, None, True, ("yes", ()), ("no", ()), (0, 1, (True,)), ["ann"]):
                self.same([one == value, value == one, one != value, value != one], [False, False, True, True])


class Written(Case):
    def test_what_is_written_and_read_does_what_the_one_does_that_was_written(self):
        chance = random.Random(161)
        for _ in range(60):
            users, lines = chance.choice(USERS), joints.random_kind(chance)
            one, other = drawn_rows(chance, users, 2)
            row, second = builds.row_of(one), builds.row_of(other)
            kind = builds.kind_of(lines)
            again, beside, of_kind = read_row(write_row(row)), read_row(write_row(second)), read_kind(write_kind(kind))
            self.same(alike(again, beside, of_kind), alike(row, second, kind))
            self.same(never_lost(again, of_kind), never_lost(row, kind))
            self.same(report(again, of_kind), report(row, kind))
            tree = builds.tree_of(walker.open_tree(chance))
            copy = read_tree(write_tree(tree))
            self.same(again(copy), row(tree))
            self.same([copy == tree, write_tree(copy)], [True, write_tree(tree)])


class Promise(Case):
    """Each answer is shown by a list that a small function goes through, or by a chain on which the commands are played."""

    def check(self, verdict, looker, rows, kind, chance, lines):
        self.same(looker(verdict.paper), True)
        listed = Stands(kind, *rows, most=2000).listed
        self.same(looker(("yes", listed)), bool(verdict))
        if verdict:
            # No chain of the kind shows the contrary.
            for _ in range(6):
                tree = joints.random_tree(chance, lines, 9)
                if tree is not None:
                    for path in tree:
                        self.same(looker(("no", self.chain_to(tree, path))), False)
        else:
            self.same(kind.holds(verdict.as_tree()), True)

    def chain_to(self, tree, path):
        names = path.split("/") if path else []
        beginnings = ["/".join(names[:k]) for k in range(len(names) + 1)]
        return tuple((one.rpartition("/")[2], *tree[one]) for one in beginnings)

    def test_all_questions(self):
        chance = random.Random(162)
        for k in range(60):
            users, lines = chance.choice(USERS), joints.random_kind(chance)
            one, other = [builds.row_of(row) for row in drawn_rows(chance, users, 2)]
            row, more, command = drawn_back(chance, users)
            row, more, command = builds.row_of(row), builds.row_of(more), builds.command_of(command)
            kind, goal, mask = builds.kind_of(lines), builds.kind_of(random_goal(chance, users)), chance.choice([0o777, 0o700, 0o055])
            whole = row + more + Row(command)
            for verdict, looker, rows in (
                (alike(one, other, kind, mask), lambda paper: shows_alike(one, other, paper, kind, mask), (one, other)),
                (at_most(one, other, kind, mask), lambda paper: shows_at_most(one, other, paper, kind, mask), (one, other)),
                (never_lost(one, kind), lambda paper: shows_never_lost(one, paper, kind), (one,)),
                (ends_in(one, goal, kind), lambda paper: shows_ends_in(one, goal, paper, kind), (one,)),
                (leads_back(row, more, command, kind), lambda paper: shows_led_back(row, more, command, paper, kind), (Row(command), whole)),
            ):
                self.check(verdict, looker, rows, kind, chance, lines)

    def test_integers_and_modes_alike(self):
        row = Row(Command(ANN, Change.read("g+w")))
        for number in (0, 0o20, 0o777):
            self.same(told(alike(row, Row(), None, number)), told(alike(row, Row(), None, Mode(number))))
            self.same(Passage(row, (0,), number, "ann", "g").after, Passage(row, (0,), Mode(number), "ann", "g").after)
            self.same(fed(LATE, [("folder", number, "ann", "q")], (0,)), fed(LATE, [("folder", Mode(number), "ann", "q")], (0,)))
            self.same(told(Folder(number, "a", "b")), told(Folder(Mode(number), "a", "b")))
            self.same(Kind.every().lets("file", number, "a", "b"), Kind.every().lets("file", Mode(number), "a", "b"))
        self.assertTrue(same(told(Mode(5)), "Mode ------r-x"))


if __name__ == "__main__":
    unittest.main()
