"""Points 2, 7 and 8, rows, and what modesdown/commands.py tells of them."""

import random
import unittest

from modesdown.changes import Change
from modesdown.commands import Command, Row
from modesdown.errors import NoCommand, TooMany
from modesdown.trees import Tree
from modesdown.users import Chief, User
from tests import builds, walker
from tests.case import Case
from tests.samples import any_values, is_integer

ANN = User("ann", "staff")
COMMANDS = [Command(ANN, Change.read(text)) for text in ("u+r", "u-r", "u+w", "u-w", "u+x", "u-x", "a+r", "a-r", "o+r", "o-r")]
A, B, C = COMMANDS[:3]


class Made(Case):
    def row(self, got, commands):
        self.assertIs(type(got), Row)
        self.same(len(got), len(commands))
        for k, command in enumerate(commands):
            self.assertEqual(got[k], command)
        self.same(got == Row(*commands), True)

    def test_up_to_ten(self):
        for many in range(11):
            self.row(Row(*COMMANDS[:many]), COMMANDS[:many])
        for many in (11, 12, 30):
            self.fails(TooMany, (10,), Row, *[A] * many)
        self.same([Row.MOST, Row().MOST], [10, 10])

    def test_indexes_of_any_values(self):
        row = Row(*COMMANDS[:6])
        for value in any_values() + list(range(-12, 12)):
            if is_integer(value) and 0 <= value < 6:
                self.assertIs(row[value], COMMANDS[value])
                self.row(row.without(value), COMMANDS[:value] + COMMANDS[value + 1:6])
            else:
                self.fails(NoCommand, (value,), row.__getitem__, value)
                self.fails(NoCommand, (value,), row.without, value)
        for value in any_values():
            self.fails(NoCommand, (value,), Row().__getitem__, value)
            self.fails(NoCommand, (value,), Row().without, value)
        self.row(row, COMMANDS[:6])

    def test_without(self):
        self.row(Row(A).without(0), [])
        self.row(Row(A, B, A).without(2), [A, B])
        self.row(Row(A, B, A).without(k=0), [B, A])

    def test_sums_on_either_side(self):
        self.row(A + B, [A, B])
        self.row(A + Row(B, C), [A, B, C])
        self.row(Row(A, B) + C, [A, B, C])
        self.row(Row(A, B) + Row(C, A), [A, B, C, A])
        self.row(Row() + Row(), [])
        self.row(Row() + A, [A])
        self.row(A + Row(), [A])
        self.row(A + B + C + Row(A) + B, [A, B, C, A, B])

    def test_sums_of_more_than_ten(self):
        ten, five = Row(*COMMANDS), Row(*COMMANDS[:5])
        self.row(five + five, COMMANDS[:5] * 2)
        self.row(ten + Row(), COMMANDS)
        for call in (lambda: ten + A, lambda: A + ten, lambda: ten + Row(A), lambda: Row(A) + ten, lambda: five + five + A):
            self.fails(TooMany, (10,), call)

    def test_products(self):
        row = Row(A, B)
        for many in range(6):
            for got in (row * many, many * row):
                self.row(got, [A, B] * many)
        for many in range(11):
            for got in (A * many, many * A, Row(A) * many):
                self.row(got, [A] * many)
        self.row(2 * A + Row(B) * 3, [A, A, B, B, B])

    def test_products_of_more_than_ten(self):
        for many in (6, 7, 10, 100, 10 ** 60):
            for call in (lambda: Row(A, B) * many, lambda: many * Row(A, B)):
                self.fails(TooMany, (10,), call)
        for many in (11, 12, 10 ** 60):
            for call in (lambda: A * many, lambda: many * A, lambda: Row(A) * many):
                self.fails(TooMany, (10,), call)

    def test_a_row_without_commands_many_times(self):
        for many in (0, 1, 11, 10 ** 9, 10 ** 60):
            self.row(Row() * many, [])
            self.row(many * Row(), [])

    def test_a_bool_is_no_number(self):
        for call in (lambda: A * True, lambda: True * A, lambda: Row(A) * False, lambda: False * Row(A)):
            with self.assertRaises(TypeError):
                call()

    def test_in_place_binds_a_new_row(self):
        one = other = Row(A, B)
        one += C
        self.row(one, [A, B, C])
        self.row(other, [A, B])
        one += Row(A, A)
        self.row(one, [A, B, C, A, A])
        one *= 2
        self.row(one, [A, B, C, A, A] * 2)
        with self.assertRaises(TooMany):
            one += A
        self.row(one, [A, B, C, A, A] * 2)
        command = A
        command += B
        self.row(command, [A, B])
        self.assertEqual(A, COMMANDS[0])

    def test_equal(self):
        self.same([Row() == Row(), Row(A, B) == Row(A, B), Row(A, B) != Row(A, B)], [True, True, False])
        self.same(Row(Command(User("ann", "staff"), Change.read("u+r"))) == Row(A), True)
        for other in (Row(), Row(A), Row(B, A), Row(A, B, A), Row(A, C)):
            self.same([Row(A, B) == other, other != Row(A, B)], [False, True])

    def test_things_of_another_kind(self):
        row = Row(B, C)
        for value in any_values() + [B, (B, C), [B, C]]:
            self.same([row == value, value == row, row != value], [False, False, True])
        self.same([Row(A) == A, A == Row(A)], [False, False])


class Done(Case):
    def test_against_the_oracle(self):
        chance = random.Random(13)
        for _ in range(600):
            plain = walker.open_tree(chance)
            commands = [walker.random_command(chance) for _ in range(chance.randrange(6))]
            tree = builds.tree_of(plain)
            events, stands = walker.played(commands, plain)
            self.same(builds.row_of(commands)(tree), events)
            self.same(builds.plain(tree), {row[0]: plain[row[0]] for row in tree.rows()})

    def test_without_commands(self):
        tree = Tree.of(("", "folder", 5, "ann", "ann"))
        self.same(Row()(tree), [])
        self.same(Row()(tree=tree), [])
        self.same(list(Row().play(tree)), [])
        self.same(tree.rows(), [("", "folder", 5, "ann", "ann")])

    def test_one_behind_the_other(self):
        tree = Tree.of(("", "folder", 0o700, "ann", "a"), ("a", "file", 0, "ann", "a"))
        row = Command(ANN, Change.read("u-x")) + Command(ANN, Change.read("o+w")) + Command(Chief("root"), Change.read("u+x"))
        self.same(row(tree), [
            [("changed", "", 0o700, 0o600), ("barred", "")], [("changed", "", 0o600, 0o602), ("barred", "")],
            [("changed", "", 0o602, 0o702), ("changed", "a", 0, 0o100)],
        ])

    def test_play_step_by_step(self):
        chance = random.Random(14)
        for _ in range(300):
            plain = walker.open_tree(chance)
            commands = [walker.random_command(chance) for _ in range(chance.randrange(5))]
            row, tree = builds.row_of(commands), builds.tree_of(plain)
            modes = {path: entry[1] for path, entry in plain.items()}
            events, stands = walker.played(commands, plain)
            wanted = [(k, event) for k, told in enumerate(events) for event in told]
            many = 0
            for pair in row.play(tree):
                self.same(pair, wanted[many])
                many += 1
                if pair[1][0] == "changed":
                    modes[pair[1][1]] = pair[1][3]
                self.same({path: tree[path].number for path in modes}, modes)
            self.same(many, len(wanted))
            self.same(builds.plain(tree), {path: plain[path] for path, entry in tree.entries()})

    def test_nothing_is_done_ahead_of_the_first_step(self):
        tree = Tree.of(("", "folder", 0o700, "ann", "a"), ("a", "file", 0, "ann", "a"))
        played = Row(C, A).play(tree=tree)
        self.same([tree[""].number, tree["a"].number], [0o700, 0])
        self.same(next(played), (0, ("changed", "", 0o700, 0o700)))

    def test_left_early(self):
        row = Row(Command(ANN, Change.read("o+w")), Command(ANN, Change.read("g+w"), "last"))
        states = [(0o702, 0, 0), (0o702, 2, 0), (0o702, 2, 2), (0o702, 0o22, 2), (0o702, 0o22, 0o22), (0o722, 0o22, 0o22)]
        for many in range(1, 7):
            tree = Tree.of(("", "folder", 0o700, "ann", "a"), ("a", "file", 0, "ann", "a"), ("b", "file", 0, "ann", "a"))
            for k, pair in enumerate(row.play(tree)):
                if k == many - 1:
                    break
            self.same(tuple(tree[path].number for path in ("", "a", "b")), states[many - 1])


if __name__ == "__main__":
    unittest.main()
