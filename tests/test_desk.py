"""Points 2 and 19 and the heading modesdown/desk.py."""

import random
import unittest

from modesdown.alike import alike, at_most
from modesdown.changes import Change
from modesdown.commands import Command, Row
from modesdown.desk import Desk
from modesdown.errors import BadText, ModesError, NoCommand, NoEntry, TooMany
from modesdown.far import far_mode
from modesdown.kinds import Kind, Line
from modesdown.lasting import never_lost, settles
from modesdown.modes import Mode
from modesdown.texts import read_kind, read_row, write_kind, write_row, write_tree
from modesdown.trees import File, Folder, Tree
from modesdown.users import Chief, User
from modesdown.words import word_of
from tests import builds, forms, joints, oracle, walker
from tests.case import Case
from tests.test_stands import wide_row
from tests.test_texts import WORDS

ANN = User("ann", "staff")


def small():
    return Tree(Folder(0o700, "ann", "staff", a=Folder(0o500, "ann", "staff", b=File(0o640, "ann", "g")), c=File(0o600, "bob", "g")))


class Model:
    """What a desk keeps and answers, by the functions of the package."""

    def __init__(self, tree):
        self.tree, self.users, self.row, self.kept, self.kind = tree.copy(), {}, Row(), Row(), Kind.every()

    def command(self, words):
        name, order, kinds, start, change = words
        return Command(self.users[name], Change.read(change), order, kinds, "" if start == "." else start)

    def ask(self, line):
        """The answer to a line without a wrong word; the model is changed only if no error is raised."""
        first, *rest = line.split(" ")
        path = "" if rest[-1:] == ["."] else rest[-1] if rest else None
        if first in ("user", "chief"):
            self.users[rest[0]] = (Chief if first == "chief" else User)(*rest)
            return "ok"
        if first == "do":
            return ", ".join(self.told(event) for event in self.command(rest)(self.tree))
        if first == "add":
            self.row = self.row + self.command(rest)
            return f"command {len(self.row) - 1}"
        if first == "drop":
            if len(self.row) == 0:
                raise NoCommand(0)
            text = write_row(self.row).split("\n")[-1]
            self.row = self.row.without(len(self.row) - 1)
            return text[3:]
        if first == "run":
            before = dict((row[0], row[2]) for row in self.tree.rows())
            self.row(self.tree)
            return f"{sum(before[row[0]] != row[2] for row in self.tree.rows())} changed"
        if first == "set":
            self.tree["" if rest[0] == "." else rest[0]] = Mode.read(rest[1])
            return "ok"
        if first == "keep":
            self.kept = self.row
            return "ok"
        if first == "kind":
            self.kind = read_kind(" ".join(rest).replace(" ; ", "\n"))
            return "ok"
        return self.asked(first, rest, path)

    def asked(self, first, rest, path):
        if first == "mode":
            return str(self.tree[path])
        if first == "word":
            return " ".join(map(str, word_of(self.row, self.tree, path))) or "none"
        if first in ("alike", "atmost"):
            found = (alike if first == "alike" else at_most)(self.row, self.kept, self.kind)
            return "yes" if found else f"no {len(found.chain)}"
        if first == "lost":
            found = never_lost(self.row, self.kind)
            return "never" if found else f"lost {len(found.chain)}"
        if first == "settles":
            found = settles(self.row, int(rest[0]), self.kind)[0]
            return "none" if found is None else str(found)
        if first == "far":
            return str(far_mode(self.tree, self.row[int(rest[0])], path, int(rest[1])))
        return (write_tree(self.tree) if first == "tree" else write_row(self.row)).replace("\n", " ; ")

    def told(self, event):
        what, path, *modes = event
        return " ".join([what, path or ".", *[str(Mode(mode)) for mode in modes]])


def state(desk):
    return [desk.tree_copy().rows(), write_row(desk.row) if same_names(desk.row) else len(desk.row), desk.kind.lines == (), write_kind(desk.kind)]


def same_names(row):
    users = [row[at].user for at in range(len(row))]
    return all(one == other for one in users for other in users if one.name == other.name)


def line_of(chance, names, paths):
    """A line of any sort, mostly one whose words can stand."""
    def command():
        name = chance.choice(names or ["ann"])
        start = chance.choice([".", ".", "a", "a/b", "b/zz", "q/q/q"])
        return f"{name} {chance.choice(['first', 'last'])} {chance.choice(['all', 'folders', 'files'])} {start} {oracle.random_change(chance, 3)}"
    path = chance.choice(paths + ["zz", "a/zz"]) or "."
    kind = write_kind(builds.kind_of(joints.random_kind(chance))).replace("\n", " ; ")
    return chance.choice([
        f"user {chance.choice(['ann', 'bob', 'cy', 'dora'])} {chance.choice(['staff', 'ops', 'staff ops'])}", "user ann", "user bob staff",
        f"chief {chance.choice(['cy', 'root', 'ann'])}", f"do {command()}", f"do {command()}", f"add {command()}", f"add {command()}",
        f"add {command()}", "drop", "drop", "run", f"set {path} {Mode(walker.random_mode(chance))}", f"mode {path}", f"word {path}", "keep",
        f"kind {kind}", "alike", "atmost", "lost", f"settles {chance.randrange(10)}", f"far {chance.randrange(3)} {chance.choice([0, 1, 7, 10 ** 59])} {path}",
        "tree", "row",
    ])


class Asked(Case):
    def test_against_the_functions(self):
        chance = random.Random(151)
        seen = {}
        for _ in range(60):
            tree = walker.open_tree(chance, 9)
            made = builds.tree_of(tree)
            desk, model, names = Desk(made), Model(made), []
            for _ in range(40):
                line = line_of(chance, names, list(tree))
                self.step(desk, model, line, seen)
                names = sorted(model.users)
            self.same(made, builds.tree_of(tree))
        for first in ("user", "chief", "do", "add", "drop", "run", "set", "mode", "word", "keep", "kind", "alike", "atmost", "lost",
                      "settles", "far", "tree", "row"):
            self.assertGreater(seen.get((first, None), 0), 5, first)
        for error in (NoCommand, NoEntry, TooMany, BadText):
            self.assertGreater(sum(many for (first, told), many in seen.items() if told is error), 5, error)

    def step(self, desk, model, line, seen):
        """One line: the same answer as the model's, or the same error."""
        users = list(model.users)
        place = forms.in_line(line, users)
        first, error = line.split(" ")[0], None
        before = state(desk)
        if place is not None:
            error = BadText
            self.fails(BadText, (0, place), desk.ask, line)
        else:
            try:
                wanted = model.ask(line)
            except ModesError as raised:
                error = type(raised)
                self.fails(error, tuple(vars(raised).values()), desk.ask, line)
            else:
                got = desk.ask(line)
                self.same(got, wanted)
        if error is not None:
            self.same(state(desk), before)
        self.same([desk.row == model.row, desk.kind == model.kind, desk.tree_copy() == model.tree], [True] * 3)
        seen[first, error] = seen.get((first, error), 0) + 1

    def test_lines_with_a_word_otherwise(self):
        chance = random.Random(152)
        seen = {}
        for _ in range(1500):
            desk = Desk(small())
            names = chance.choice([["ann"], ["ann", "bob"], ["ann", "bob", "cy"]])
            desk.run(*[f"user {name}" for name in names], "add ann first all . u+r")
            words = line_of(chance, names, ["", "a", "a/b", "c"]).split(" ")
            turn, at = chance.randrange(5), chance.randrange(len(words))
            if turn < 3:
                words[at] = chance.choice(WORDS + ["0", "00", "01", "10", "9", "5\n", "\n", "a\nb", "+1", "-1", "1" * 60, "1" * 61])
            elif turn == 3:
                words.insert(at + 1, chance.choice(WORDS))
            else:
                words.pop(at)
            line = " ".join(words)
            place, before = forms.in_line(line, names), state(desk)
            if place is not None:
                self.fails(BadText, (0, place), desk.ask, line)
                self.fails(BadText, (0, place), desk.run, "drop", line)
                self.same(state(desk), before)
            seen[place] = seen.get(place, 0) + 1
        self.assertLessEqual({None, 0, 1, 2, 3, 4, 5, 6}, set(seen))

    def test_every_line_once(self):
        desk = Desk(small())
        for line, answer in (
            ("row", "none"), ("keep", "ok"), ("alike", "yes"), ("atmost", "yes"), ("lost", "never"), ("settles 0", "0"), ("word a", "none"),
            ("user ann staff", "ok"), ("chief cy", "ok"), ("user bob", "ok"), ("add ann first all . a-x", "command 0"),
            ("add cy last files a/b u+X", "command 1"), ("word .", "0 1"), ("word a/b", "1"), ("word c", "none"), ("alike", "no 1"),
            ("row", "user ann staff ; chief cy ; do ann first all . a-x ; do cy last files a/b u+X"), ("atmost", "no 3"),
            ("lost", "lost 2"), ("settles 0", "none"), ("settles 4", "1"), ("far 0 1 .", "rw-------"), ("far 1 " + "9" * 60 + " a/b", "rw-r-----"),
            ("do ann first all . o+r", "changed . rwx------ rwx---r--, changed a r-x------ r-x---r--, changed a/b rw-r----- rw-r--r--, refused c"),
            ("do bob last all a/b u+x", "barred ."), ("do cy first files a/zz u+x", "missing a/zz"), ("do cy first folders c u+r", ""),
            ("run", "1 changed"), ("mode .", "rw----r--"), ("mode a/b", "rw-r--r--"), ("set . rwx------", "ok"), ("mode .", "rwx------"),
            ("tree", "drwx------ ann staff . ; dr-x---r-- ann staff a ; -rw-r--r-- ann g a/b ; -rw------- bob g c"),
            ("drop", "cy last files a/b u+X"), ("keep", "ok"), ("alike", "yes"), ("drop", "ann first all . a-x"), ("atmost", "no 1"),
            ("kind folder ann * 700 000 ; file * ops 000 002", "ok"), ("alike", "no 1"),
        ):
            self.same(desk.ask(line), answer)
        self.same(desk.kind, Kind(Line("folder", ["ann"], must=0o700), Line("file", None, ["ops"], 0, 2)))
        self.same(desk.row, Row())

    def test_the_row_against_the_kept_one(self):
        desk = Desk(small())
        self.same(desk.run("chief cy", "add cy first all . o-w", "keep", "drop", "atmost", "alike", "add cy first all . a-w", "atmost", "alike"),
                  ["ok", "command 0", "ok", "cy first all . o-w", "no 1", "no 1", "command 0", "yes", "no 1"])

    def test_users(self):
        desk = Desk(small())
        desk.run("user ann", "user bob", "user cy")
        for line in ("user dora", "chief dora staff", "user dora x y z", "user dora A"):
            self.fails(BadText, (0, 1), desk.ask, line)
        self.same(desk.run("user ann staff", "chief ann", "user bob a b", "chief cy"), ["ok"] * 4)
        for line, k in (
            ("user", 1), ("chief", 1), ("user ", 1), ("user Ann", 1), ("user ann ", 2), ("user ann a a", 3), ("user ann a b c", 4),
            ("user ann A", 2), ("user ann a  b", 3), ("user ann\nbob", 1), ("user ann a\n", 2),
        ):
            self.fails(BadText, (0, k), desk.ask, line)
        self.fails(BadText, (0, 1), desk.ask, "do dora first all . u+r")
        self.fails(BadText, (0, 1), Desk(small()).ask, "do ann first all . u+r")
        self.fails(BadText, (0, 1), Desk(small()).ask, "add ann nowhere")

    def test_a_user_in_the_place_of_another_one(self):
        desk = Desk(small())
        desk.run("user ann", "add ann first all . o+w", "chief ann", "add ann last all . o+w")
        self.same([desk.row[0].user, desk.row[1].user], [User("ann"), Chief("ann")])
        self.same(desk.ask("do ann first files c u="), "changed c rw------- ---------")
        self.same([desk.run("user ann staff", "drop"), desk.row[0].user], [["ok", "ann last all . o+w"], User("ann")])
        self.same(desk.run("add ann first all . o+w", "drop", "row"), ["command 1", "ann first all . o+w", "user ann ; do ann first all . o+w"])

    def test_ten_commands(self):
        desk = Desk(small())
        desk.ask("chief cy")
        self.same(desk.run(*["add cy first all . u+r"] * 10), [f"command {k}" for k in range(10)])
        self.fails(TooMany, (10,), desk.ask, "add cy first all . u+r")
        self.fails(BadText, (0, 6), desk.ask, "add cy first all . u+r x")
        self.same([len(desk.row), desk.ask("drop"), len(desk.row)], [10, "cy first all . u+r", 9])
        self.fails(TooMany, (10,), desk.ask, "settles 1")
        self.same(desk.ask("settles 0"), "none")
        self.fails(NoCommand, (9,), desk.ask, "far 9 5 zz")
        self.fails(NoEntry, ("zz",), desk.ask, "far 8 5 zz")

    def test_errors_in_their_order(self):
        desk = Desk(small())
        desk.run("user ann", "add ann first all . u+r")
        for line, error, fields in (
            ("mode zz", NoEntry, ("zz",)), ("mode a/b/c", NoEntry, ("a/b/c",)), ("mode a/", BadText, (0, 1)), ("mode zz x", BadText, (0, 2)),
            ("set zz rwxrwxrwx", NoEntry, ("zz",)), ("set zz rwxrwxrw", BadText, (0, 2)), ("set zz rwxrwxrwx x", BadText, (0, 3)),
            ("word zz", NoEntry, ("zz",)), ("word", BadText, (0, 1)), ("word ", BadText, (0, 1)), ("far 1 1 zz", NoCommand, (1,)),
            ("far " + "1" * 60 + " 1 zz", NoCommand, (int("1" * 60),)), ("far " + "1" * 61 + " 1 zz", BadText, (0, 1)),
            ("far 0 1 zz", NoEntry, ("zz",)), ("far 1 01 zz", BadText, (0, 2)), ("far 1 1 ZZ", BadText, (0, 3)), ("far 1 1", BadText, (0, 3)),
            ("far 00 1 .", BadText, (0, 1)), ("far 0 " + "1" * 61 + " .", BadText, (0, 2)), ("far -1 1 .", BadText, (0, 1)),
            ("settles", BadText, (0, 1)), ("settles 10", BadText, (0, 1)), ("settles x", BadText, (0, 1)), ("settles 9 9", BadText, (0, 2)),
            ("settles 00", BadText, (0, 1)), ("settles ", BadText, (0, 1)), ("", BadText, (0, 0)), (" run", BadText, (0, 0)), ("run ", BadText, (0, 1)),
            ("RUN", BadText, (0, 0)), ("none", BadText, (0, 0)), ("run x", BadText, (0, 1)), ("row\n", BadText, (0, 0)), ("tree .", BadText, (0, 1)),
            ("drop 1", BadText, (0, 1)), ("keep all", BadText, (0, 1)), ("alike x", BadText, (0, 1)), ("atmost x", BadText, (0, 1)),
            ("lost x", BadText, (0, 1)), ("do ann first all . u+r,,", BadText, (0, 5)), ("do ann first all .\n u+r", BadText, (0, 4)),
            ("do ann first all a/b/c/d u+r", BadText, (0, 4)), ("do", BadText, (0, 1)), ("add ann first all .", BadText, (0, 5)),
        ):
            before = state(desk)
            self.fails(error, fields, desk.ask, line)
            self.same(state(desk), before)
        self.same(desk.ask("drop"), "ann first all . u+r")
        self.fails(NoCommand, (0,), desk.ask, "drop")
        self.fails(NoCommand, (0,), desk.ask, "far 0 0 zz")

    def test_kinds_in_one_line(self):
        desk = Desk(small())
        line = "folder * * 000 000"
        for text, k in (
            ("kind", 1), ("kind ", 1), ("kind x", 1), (f"kind {line} ;", 6), (f"kind {line} ; ", 7), (f"kind ; {line}", 1), (f"kind {line}\nfile", 5),
            (f"kind {line} ; file", 8), (f"kind {line} ; file * * 000 00", 11), (f"kind {line} ; {line} x", 12), (f"kind {line} ;  ; {line}", 7),
            (f"kind {line} ; ; {line}", 7), ("kind folder * * 000 ; file * * 000 000", 5), (f"kind {line} ; {line} ; {line} ; {line} ; {line}", 25),
            (f"kind {line}; {line}", 5), (f"kind {line} ;{line}", 6), ("kind folder * * 001 001", 5), (f"kind  {line}", 1),
            (f"kind {line}\n{line}", 5),
        ):
            self.assertEqual(forms.in_line(text, []), k, text)
            self.fails(BadText, (0, k), desk.ask, text)
            self.same(desk.kind, Kind.every())
        self.same(desk.ask("kind " + " ; ".join([line] * 4)), "ok")
        self.same(desk.kind, Kind(*[Line("folder")] * 4))

    def test_too_many_joint_stands(self):
        lines, row, many = wide_row()
        desk = Desk(small())
        for line in write_row(builds.row_of(row)).split("\n"):
            desk.ask(line.replace("do ", "add ", 1) if line.startswith("do ") else line)
        self.same([desk.row == builds.row_of(row), read_row(desk.ask("row").replace(" ; ", "\n")) == desk.row], [True, True])
        for line in ("lost", "alike", "atmost", "settles 0"):
            self.fails(TooMany, (400,), desk.ask, line)


class Runs(Case):
    def test_an_error_in_the_midst_leaves_all_as_it_was(self):
        lines = [
            "user ann x", "chief cy", "chief bob", "add cy first all . a-w", "keep", "drop", "add ann first all . u+r", "kind folder * * 000 000",
            "set a ---------", "do cy first all . o+r", "run",
        ]
        for wrong, error, fields in (
            ("mode zz", NoEntry, ("zz",)), ("x", BadText, (0, 0)), ("far 7 1 .", NoCommand, (7,)), ("settles 9 ", BadText, (0, 2)),
            ("add bob first all . z", BadText, (0, 5)),
        ):
            for at in range(len(lines) + 1):
                desk = Desk(small())
                desk.run("user ann staff", "user bob", "add bob last files a/b u+x", "keep")
                before = state(desk)
                self.fails(error, fields, desk.run, *lines[:at], wrong, *lines[at:])
                self.same(state(desk), before)
                # The users and the kept row are as they were, too.
                self.same(desk.run("alike", "user cy", "do ann first all . o+w", "row"), [
                    "yes", "ok", "changed . rwx------ rwx----w-, changed a r-x------ r-x----w-, changed a/b rw-r----- rw-r---w-, refused c",
                    "user bob ; do bob last files a/b u+x",
                ])

    def test_a_drop_too_many(self):
        desk = Desk(small())
        self.fails(NoCommand, (0,), desk.run, "user ann", "add ann first all . u+r", "drop", "drop")
        self.fails(BadText, (0, 1), desk.ask, "add ann first all . u+r")

    def test_an_error_of_another_sort(self):
        desk = Desk(small())
        with self.assertRaises(Exception):
            desk.run("user ann", "set a ---------", None)
        self.same(desk.run("mode a"), ["r-x------"])
        self.fails(BadText, (0, 1), desk.ask, "do ann first all . u+r")

    def test_answers_in_order(self):
        desk = Desk(small())
        self.same(desk.run(), [])
        got = desk.run("mode .", "set . ---------", "mode .", "user ann", "do ann first folders . u+w")
        self.same(got, ["rwx------", "ok", "---------", "ok", "changed . --------- -w-------, barred ."])
        got.clear()
        self.same(desk.run("mode ."), ["-w-------"])


class Kept(Case):
    def test_a_copy_of_the_tree(self):
        tree = small()
        desk = Desk(tree)
        tree["a"] = 0
        tree.take_out("c")
        self.same(desk.tree_copy(), small())
        told = desk.tree_copy()
        told["a"] = 0
        told.take_out("c")
        self.same([desk.tree_copy(), desk.ask("mode a")], [small(), "r-x------"])
        desk.ask("set a rwxrwxrwx")
        self.same([told["a"].number, tree["a"].number, desk.tree_copy()["a"].number], [0, 0, 511])
        self.assertIs(type(desk.tree_copy()), Tree)

    def test_row_and_kind(self):
        desk = Desk(tree=small())
        self.same([desk.row, desk.kind], [Row(), Kind.every()])
        desk.run("user ann", "add ann first all . u+r", "kind file ann * 000 000")
        row, kind = desk.row, desk.kind
        desk.run("drop", "kind folder * * 000 000")
        self.same([row, kind], [Row(Command(User("ann"), Change.read("u+r"))), Kind(Line("file", ["ann"]))])
        for name in ("row", "kind"):
            with self.assertRaises(AttributeError):
                setattr(desk, name, None)
        self.same(Desk(small()).row, Row())

    def test_two_desks(self):
        one, other = Desk(small()), Desk(small())
        one.run("user ann", "set a ---------", "add ann first all . u+r")
        self.same([other.tree_copy(), other.row], [small(), Row()])
        self.fails(BadText, (0, 1), other.ask, "do ann first all . u+r")


if __name__ == "__main__":
    unittest.main()
