"""Points 2, 12 and 18 and the heading modesdown/alike.py."""

import random
import time
import unittest

from modesdown.alike import Held, Parted, Verdict, alike, at_most, exchanged, needless
from modesdown.changes import Change
from modesdown.commands import Command, Row
from modesdown.errors import BadMode, NoCommand, TooMany
from modesdown.kinds import Kind, Line
from modesdown.modes import Mode
from modesdown.stands import Stands
from modesdown.trees import Tree
from modesdown.users import Chief, User
from tests import builds, joints, walker
from tests.case import Case
from tests.samples import any_values, is_integer, same
from tests.test_stands import MEND, NO_FOLDERS, USERS, wide

ANN = User("ann", "staff")
OPENED = Row(Command(ANN, Change.read("u+rx")))
MASKS = [0o777, 0o777, 0o777, 0o700, 0o077, 0o444, 0o111, 0o222, 0]
CHAIN = (("", "folder", 0o700, "ann", "q"), ("a", "folder", 0o755, "bob", "q"), ("b", "file", 0, "ann", "staff"))


def variant(chance, row):
    """A row that may well do the same."""
    made = list(row)
    for _ in range(chance.randint(1, 2)):
        turn, at = chance.randrange(5), chance.randrange(len(made)) if made else 0
        if turn == 0:
            made = made * 2
        elif turn == 1 and made:
            made.pop(at)
        elif turn == 2 and len(made) > 1:
            made[at - 1], made[at] = made[at], made[at - 1]
        elif turn == 3 and made:
            made.insert(chance.randrange(len(made) + 1), made[at])
        elif made:
            made[at] = (*made[at][:2], chance.choice(["first", "last"]), *made[at][3:])
    return made[:5]


class Checked(Case):
    def check(self, lines, one, other, mask, at_most_asked, got):
        """A verdict is right, and its chain is a shortest one, which parts the rows when they are played."""
        wanted = joints.least_chain(lines, one, other, mask, at_most_asked)
        kind = builds.kind_of(lines)
        if wanted is None:
            self.assertIs(type(got), Held)
            stands = Stands(kind, builds.row_of(one), builds.row_of(other))
            self.same([got.listed, got.paper, got.answer, bool(got)], [stands.listed, ("yes", stands.listed), "yes", True])
            return 0
        self.assertIs(type(got), Parted)
        self.same([len(got.chain), got.paper, got.answer, bool(got)], [wanted, ("no", got.chain), "no", False])
        deepest = max([len(joints.names_of(command)) for command in one + other] or [0])
        self.assertLessEqual(wanted, max(2, deepest + len(one) + len(other)))
        for entry in got.chain:
            self.same([type(part) for part in entry], [str, str, int, str, str])
        tree = got.as_tree()
        self.same([kind.holds(tree), tree.size()], [True, wanted])
        self.same(builds.plain(tree), builds.plain_chain(got.chain))
        last = tree.rows()[-1][0]
        left = []
        for row in (one, other):
            copy = tree.copy()
            builds.row_of(row)(copy)
            left.append(copy[last].number & mask)
        self.assertTrue(left[0] & ~left[1] if at_most_asked else left[0] != left[1])
        return wanted


class Asked(Checked):
    def test_against_the_oracle(self):
        chance = random.Random(71)
        told = set()
        for _ in range(350):
            users, lines = chance.choice(USERS), joints.random_kind(chance)
            one = [walker.random_command(chance, users) for _ in range(chance.randint(0, 3))]
            other, mask, turn = variant(chance, one), chance.choice(MASKS), chance.random() < 0.4
            call = at_most if turn else alike
            kind, rows = builds.kind_of(lines), (builds.row_of(one), builds.row_of(other))
            got = call(*rows, kind, chance.choice([mask, Mode(mask)]))
            told.add((turn, self.check(lines, one, other, mask, turn, got)))
            self.same(call(*rows, kind, mask).paper, got.paper)
        self.assertLessEqual({(turn, k) for turn in (True, False) for k in (0, 1, 2, 3)}, told)

    def test_unlike_rows(self):
        chance = random.Random(72)
        for _ in range(80):
            users, lines = chance.choice(USERS), joints.random_kind(chance)
            one, other = [[walker.random_command(chance, users) for _ in range(chance.randint(0, 3))] for _ in range(2)]
            kind, rows = builds.kind_of(lines), (builds.row_of(one), builds.row_of(other))
            self.check(lines, one, other, 0o777, False, alike(*rows, kind))
            self.check(lines, one, other, 0o777, True, at_most(*rows, kind))

    def test_every_kind_is_the_usual_one(self):
        for call in (alike, at_most):
            for rows in ((MEND, MEND * 2), (OPENED, OPENED * 2), (MEND * 2, MEND)):
                self.same(call(*rows).paper, call(*rows, Kind.every(), 0o777, 400).paper)
                self.same(call(*rows).paper, call(most=400, mask=0o777, kind=None, other=rows[1], one=rows[0]).paper)

    def test_the_top_alone(self):
        one, other = Row(Command(ANN, Change.read("o+w"))), Row()
        found = alike(one, other)
        self.same([len(found.chain), found.chain[0][:2], found.chain[0][3]], [1, ("", "folder"), "ann"])
        self.same([bool(at_most(one, other)), bool(at_most(other, one))], [False, True])
        self.same(len(at_most(one, other).chain), 1)
        self.same(bool(alike(one, other, Kind(Line("folder", ["bob"])))), True)
        self.same(bool(alike(one, other, Kind(Line("folder", must=2), Line("file", ["bob"])))), True)

    def test_files_at_the_top_do_not_count(self):
        # The top is a folder, so a command for files alone shows at the second entry.
        one = Row(Command(ANN, Change.read("o+w"), kinds="files"))
        self.same(len(alike(one, Row()).chain), 2)
        self.same(alike(one, Row()).chain[1][1], "file")
        self.same(bool(alike(one, Row(), Kind(Line("folder")))), True)
        self.same(len(alike(Row(Command(ANN, Change.read("o+w"), start="a/b")), Row()).chain), 3)

    def test_no_line_for_folders(self):
        for call in (alike, at_most):
            self.same(call(MEND, Row(), NO_FOLDERS).paper, ("yes", ()))

    def test_narrower_masks_and_kinds(self):
        self.same([bool(alike(MEND, MEND * 2, mask=mask)) for mask in (0o777, 0o077, 0o500, 0o400, 0o100, 0o200, 0)],
                  [False, True, False, False, False, True, True])
        self.same([bool(at_most(MEND * 2, MEND)), bool(at_most(MEND, MEND * 2))], [False, True])
        wide_open = Kind(Line("folder", must=0o555), Line("file"))
        self.same([bool(alike(MEND, MEND * 2, wide_open)), len(alike(MEND, MEND * 2, wide_open).listed)], [True, 1])

    def test_what_is_no_mode_ahead_of_too_many(self):
        lines, rows, many = wide()
        told = [builds.row_of(row) for row in rows]
        for call in (alike, at_most):
            for value in any_values() + [512, -1, True]:
                if not (isinstance(value, Mode) or is_integer(value) and 0 <= value <= 511):
                    self.fails(BadMode, ("number",), call, *told, None, value)
                    self.fails(BadMode, ("number",), call, MEND, MEND, NO_FOLDERS, value, 1)
                    self.fails(BadMode, ("number",), call, MEND, MEND, mask=value)

    def test_too_many_whatever_the_answer_would_be(self):
        lines, rows, many = wide()
        told = [builds.row_of(row) for row in rows]
        for call in (alike, at_most):
            self.fails(TooMany, (400,), call, *told)
            self.fails(TooMany, (400,), call, *told, mask=0)
            self.fails(TooMany, (many - 1,), call, *told, None, 0, many - 1)
            self.same(bool(call(*told, mask=0, most=many)), True)
            self.fails(TooMany, (1,), call, MEND, MEND, most=1)
            self.fails(TooMany, (2,), call, MEND, MEND * 2, most=2)
            # Parted at the top already.
            self.fails(TooMany, (1,), call, MEND, Row(), most=1)
            self.same(len(call(MEND, MEND, most=2).listed), 2)

    def test_the_same_one_for_equal_arguments(self):
        one = Row(Command(User("ann", "a", "b"), Change.read("g+w"), start="a"))
        other = Row(Command(User("ann", "b", "a"), Change.read("g+w"), start="a"))
        self.same(alike(one, Row()).paper, alike(other, Row()).paper)


class Within(Checked):
    def test_needless_and_exchanged_against_the_oracle(self):
        chance = random.Random(73)
        told = set()
        for _ in range(35):
            users, lines = chance.choice(USERS), joints.random_kind(chance)
            row = [walker.random_command(chance, users) for _ in range(chance.randint(1, 3))]
            row = row + [chance.choice(row)]
            made, kind, mask = builds.row_of(row), builds.kind_of(lines), chance.choice(MASKS)
            for k in range(len(row)):
                got = needless(made, k, kind, mask)
                less = row[:k] + row[k + 1:]
                told.add(("needless", self.check(lines, row, less, mask, False, got) > 0))
                self.same(got.paper, alike(made, made.without(k), kind, mask).paper)
            for k in range(len(row) - 1):
                got = exchanged(made, k, kind=kind, mask=mask)
                turned = row[:k] + [row[k + 1], row[k]] + row[k + 2:]
                told.add(("exchanged", self.check(lines, row, turned, mask, False, got) > 0))
                self.same(got.paper, alike(made, builds.row_of(turned), kind, mask).paper)
        self.assertEqual(len(told), 4)

    def test_each_index(self):
        row = Row(*[Command(ANN, Change.read(text)) for text in ("o+r", "o-r", "u+x", "o+r")])
        self.same([bool(needless(row, k)) for k in range(4)], [True, True, False, False])
        # The last command gives r to all again, if it comes to them.
        self.same([bool(exchanged(row, k)) for k in range(3)], [True, True, False])
        self.same([bool(exchanged(row, k, mask=0o700)) for k in range(3)], [True, True, True])
        self.same(bool(needless(index=3, row=row, mask=0o700)), True)
        self.same(len(row), 4)

    def test_without_a_kind_and_with_one(self):
        self.same([bool(needless(OPENED * 2, 1)), bool(needless(MEND * 2, 0))], [True, False])
        wide_open = Kind(Line("folder", must=0o555), Line("file"))
        self.same(bool(needless(MEND * 2, 0, wide_open)), True)
        self.same(bool(exchanged(MEND * 2, 0)), True)

    def test_no_command_first_of_all(self):
        row = Row(*[Command(ANN, Change.read("u+r"))] * 3)
        for value in any_values() + list(range(-4, 5)):
            if not (is_integer(value) and 0 <= value < 3):
                self.fails(NoCommand, (value,), needless, row, value)
                self.fails(NoCommand, (value,), needless, row, value, None, 512, 1)
            else:
                self.assertTrue(needless(row, value))
                self.fails(BadMode, ("number",), needless, row, value, None, 512, 1)
                self.fails(TooMany, (1,), needless, row, value, None, 511, 1)
            if not (is_integer(value) and 0 <= value < 2):
                self.fails(NoCommand, (value,), exchanged, row, value)
                self.fails(NoCommand, (value,), exchanged, row, value, mask=True, most=1)
            else:
                self.assertTrue(exchanged(row, value))
                self.fails(BadMode, ("number",), exchanged, row, value, mask=512, most=1)
                self.fails(TooMany, (1,), exchanged, row, value, most=1)
        for k in (-1, 0, 1):
            self.fails(NoCommand, (k,), needless, Row(), k)
            self.fails(NoCommand, (k,), exchanged, Row(), k)
        self.fails(NoCommand, (0,), exchanged, OPENED, 0)


class Verdicts(Case):
    def test_parts(self):
        listed = (((0,),), ((1,),))
        held, parted = Held(listed), Parted(CHAIN)
        self.same([held.listed, held.paper, held.answer, bool(held)], [listed, ("yes", listed), "yes", True])
        self.same([parted.chain, parted.paper, parted.answer, bool(parted)], [CHAIN, ("no", CHAIN), "no", False])
        self.same([Held(listed=()).paper, Parted(chain=CHAIN[:1]).paper], [("yes", ()), ("no", CHAIN[:1])])
        self.same([bool(Held(())), Held(()).answer], [True, "yes"])
        self.assertEqual([Held.__bases__, Parted.__bases__], [(Verdict,), (Verdict,)])
        for one, names in ((held, ("paper", "answer", "listed")), (parted, ("paper", "answer", "chain"))):
            for name in names:
                with self.assertRaises(AttributeError):
                    setattr(one, name, ())

    def test_equal_by_papers(self):
        listed = (((0,),),)
        self.same([Held(listed) == Held(listed), Held(listed) != Held(listed), Parted(CHAIN) == Parted(CHAIN)], [True, False, True])
        self.same([Held(()) == Parted(()), Parted(()) == Held(())], [False, False])
        self.same([Held(listed) == Held(()), Parted(CHAIN) == Parted(CHAIN[:2])], [False, False])
        self.same(alike(MEND, MEND * 2) == alike(MEND, MEND * 2), True)
        self.same(alike(OPENED, OPENED) == Held(Stands(Kind.every(), OPENED, OPENED).listed), True)
        for verdict in (Held(listed), Parted(CHAIN)):
            for value in any_values() + [verdict.paper, True]:
                self.same([verdict == value, value == verdict], [False, False])

    def test_as_tree(self):
        parted = Parted(CHAIN)
        tree = parted.as_tree()
        self.assertIs(type(tree), Tree)
        self.same(tree.rows(), [
            ("", "folder", 0o700, "ann", "q"), ("a", "folder", 0o755, "bob", "q"), ("a/b", "file", 0, "ann", "staff"),
        ])
        tree["a/b"] = 7
        tree.take_out("a")
        self.same(parted.as_tree().rows()[2], ("a/b", "file", 0, "ann", "staff"))
        self.same(parted.chain, CHAIN)
        self.same(Parted(CHAIN[:1]).as_tree().rows(), [("", "folder", 0o700, "ann", "q")])
        self.assertIsNot(parted.as_tree(), parted.as_tree())
        deep = (CHAIN[0],) + (("q", "folder", 1, "a", "b"),) * 59
        self.same(Parted(deep).as_tree().size(), 60)


class Long(Case):
    def test_rows_of_ten_on_a_kind_of_four_lines(self):
        users = [User("ann", "g", "h"), Chief("bob", "i", "j"), User("cy", "k", "g")]
        lines = [
            Line("folder", ["ann", "dd"], ["g", "l"], 0, 0o007), Line("file", None, ["h", "m"], 0o200, 0),
            Line("folder", ["bob", "cy"], None, 0, 0o020), Line("file", ["cy", "ff"], ["n", "i"]),
        ]
        texts = ["u+rx", "g=u", "o=g,u-w", "a+X", "u=g,g=o,o=u", "g-x", "o+r", "u+x", "u=rwx,g=rx,o=", "o-w"]
        commands = [
            Command(users[k % 3], Change.read(text), ("first", "last")[k % 2], "all", ("", "a", "", "a/b", "")[k % 5])
            for k, text in enumerate(texts)
        ]
        row, other = Row(*commands), Row(*commands[::-1])
        began = time.monotonic()
        for kind in (Kind(*lines), Kind.every()):
            for call in (lambda: alike(row, other, kind, most=2000), lambda: at_most(row, other, kind, most=2000),
                         lambda: needless(row, 9, kind, most=2000), lambda: exchanged(row, 4, kind, most=2000)):
                try:
                    found = call()
                except TooMany as error:
                    self.same(error.most, 2000)
                else:
                    self.assertTrue(found or kind.holds(found.as_tree()))
                    self.assertTrue(found or len(found.chain) <= 22)
        self.assertTrue(same(alike(row, row, Kind(*lines), most=2000).answer, "yes"))
        self.assertLess(time.monotonic() - began, 60)


if __name__ == "__main__":
    unittest.main()
