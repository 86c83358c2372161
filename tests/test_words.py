"""Points 2 and 9 and the heading modesdown/words.py."""

import random
import unittest

from modesdown.changes import Change
from modesdown.commands import Command, Row
from modesdown.errors import BadMode, BadName, BadPath, BadStand, NoEntry
from modesdown.modes import Mode
from modesdown.trees import File, Folder, Tree
from modesdown.users import Chief, User
from modesdown.words import Passage, behind, reckoned, stand_of, word_of, words
from tests import builds, oracle, walker
from tests.case import Case, is_name, is_path
from tests.samples import any_values, is_integer, same
from tests.test_trees import NO_PATHS, NOWHERE, PATHS, made

ANN, BOB = User("ann", "staff"), User("bob", "staff", "ops")
PLUS = Change.read("o+w")
STARTS = ("", "b", "b/c", "b/c/d")
ROW = Row(*[Command(ANN, PLUS, start=start) for start in STARTS])


def drawn(chance, tree=walker.open_tree, most=6):
    """Plain values, and what the package and the oracle make of them."""
    plain = tree(chance)
    commands = [walker.random_command(chance) for _ in range(chance.randrange(most))]
    model = builds.copied(plain)
    events, stands = walker.played(commands, model)
    return plain, commands, model, stands


class OnTrees(Case):
    def test_stands_and_words_against_walks(self):
        chance = random.Random(21)
        seen = set()
        for _ in range(500):
            plain, commands, model, stands = drawn(chance, chance.choice([walker.open_tree, walker.random_tree]))
            row, tree = builds.row_of(commands), builds.tree_of(plain)
            rows = tree.rows()
            wanted = {}
            for path in plain:
                self.same(stand_of(row, tree, path), stands[path])
                wanted[path] = tuple(k for k, number in enumerate(stands[path]) if number != -1)
                self.same(word_of(row, tree, path), wanted[path])
                seen.update(stands[path])
            self.same(list(words(row, tree)), [(path, wanted[path]) for path in walker.in_order(plain)])
            self.same(tree.rows(), rows)
            for path in plain:
                if path:
                    self.assertLessEqual(set(wanted[path]), set(wanted[path.rpartition("/")[0]]))
        self.assertEqual(seen, {-1, 0, 1, 2, 3})

    def test_reckoned_against_the_row_done(self):
        chance = random.Random(22)
        for _ in range(500):
            plain, commands, model, stands = drawn(chance, chance.choice([walker.open_tree, walker.random_tree]))
            row, tree = builds.row_of(commands), builds.tree_of(plain)
            rows = tree.rows()
            left = reckoned(row, tree)
            self.assertIs(type(left), Tree)
            self.same(tree.rows(), rows)
            self.same(left.rows(), [(path, *model[path]) for path in walker.in_order(plain)])
            row(tree)
            self.assertEqual(left, tree)

    def test_by_name(self):
        tree = made()
        row = Row(Command(ANN, PLUS))
        self.same(stand_of(path="doc", tree=tree, row=row), (0,))
        self.same(word_of(path="doc", tree=tree, row=row), (0,))
        self.same(list(words(tree=tree, row=row))[:1], [("", (0,))])
        self.assertEqual(reckoned(tree=tree, row=row), reckoned(row, tree))

    def test_at_the_top_all_are_zero(self):
        tree = made()
        tree[""] = 0
        for many in range(5):
            row = Row(*[Command(BOB, PLUS, start=start) for start in (STARTS * 2)[:many]])
            self.same([stand_of(row, tree, ""), word_of(row, tree, "")], [(0,) * many, tuple(range(many))])

    def test_what_is_told_of_paths(self):
        tree = made()
        for call in (stand_of, word_of):
            for row in (Row(), ROW):
                for value in any_values() + NO_PATHS:
                    if not is_path(value):
                        self.fails(BadPath, (value,), call, row, tree, value)
                    elif value != "":
                        self.fails(NoEntry, (value,), call, row, tree, value)
                for path in NOWHERE:
                    self.fails(NoEntry, (path,), call, row, tree, path)

    def test_the_reckoned_tree_is_new(self):
        tree = made()
        left = reckoned(Row(), tree)
        self.assertEqual(left, tree)
        left["src"] = 0
        left.take_out("doc")
        self.assertEqual(tree, made())
        self.same([path for path, word in words(Row(), tree)], PATHS)


class Refused(Case):
    def calls(self, row):
        """Whatever takes a stand of a row."""
        return [
            lambda stand: Passage(row, stand, 0o755, "ann", "staff"), lambda stand: Passage(row, stand, 512, "A", "B"),
            lambda stand: behind(row, stand, File(0, "ann", "a")), lambda stand: behind(row, stand, Folder(0, "ann", "a")),
        ]

    def test_what_is_no_tuple(self):
        for row in (Row(), ROW):
            for call in self.calls(row):
                for value in any_values() + [[0, 0, 0, 0], 0, "0000"]:
                    if not isinstance(value, tuple):
                        self.fails(BadStand, (0,), call, value)

    def test_wrong_integers(self):
        for call in self.calls(ROW):
            for at in range(4):
                for value in any_values() + [-2, at + 1, 4, 3.0, "0", True, False, None]:
                    if not (is_integer(value) and -1 <= value <= at):
                        stand = (0,) * at + (value,) + (0,) * (3 - at)
                        self.fails(BadStand, (at,), call, stand)
                        self.fails(BadStand, (at,), call, (-1,) * at + (value,) * (4 - at))
                        self.fails(BadStand, (at,), call, stand[:at + 1])
                        self.fails(BadStand, (at,), call, stand + (0,))

    def test_another_length(self):
        for call in self.calls(ROW):
            for many in (0, 1, 2, 3):
                self.fails(BadStand, (many,), call, (0,) * many)
            for many in (5, 6, 20):
                self.fails(BadStand, (4,), call, (0,) * many)
                self.fails(BadStand, (4,), call, (0,) * 4 + (None,) * (many - 4))
        for call in self.calls(Row()):
            self.fails(BadStand, (0,), call, (0,))
            self.fails(BadStand, (0,), call, (None, 0))

    def test_all_right_numbers(self):
        for a in (-1, 0):
            for b in (-1, 0, 1):
                for c in (-1, 0, 1, 2):
                    for d in (-1, 0, 1, 2, 3):
                        stand = (a, b, c, d)
                        self.same(Passage(ROW, stand, 0, "b", "b").word, tuple(k for k in range(4) if stand[k] != -1))
                        self.same(behind(ROW, stand, File(0, "b", "b")), 0)

    def test_then_as_a_folder(self):
        for value in any_values():
            if not isinstance(value, Mode) and not (is_integer(value) and 0 <= value <= 511):
                self.fails(BadMode, ("number",), Passage, ROW, (0, 0, 0, 0), value, "A", "B")
            if not is_name(value):
                self.fails(BadName, (value,), Passage, ROW, (0, 0, 0, 0), 511, value, "B")
                self.fails(BadName, (value,), Passage, ROW, (0, 0, 0, 0), 511, "b", value)
        self.fails(BadStand, (3,), Passage, ROW, (0, 0, 0, 4), 512, "A", "B")

    def test_no_name_below(self):
        for passage in (Passage(ROW, (0, 0, 0, 0), 0, "ann", "a"), Passage(Row(), (), 0, "ann", "a")):
            for value in any_values():
                if is_name(value):
                    self.assertIs(type(passage(value)), tuple)
                else:
                    self.fails(BadName, (value,), passage, value)


class Passages(Case):
    def test_against_walks(self):
        # What comes to a folder, and what goes on from it, is told by the folder and the stand at it alone.
        chance = random.Random(23)
        for _ in range(400):
            plain, commands, model, stands = drawn(chance)
            row = builds.row_of(commands)
            for path, (form, mode, owner, group) in plain.items():
                if form == "file":
                    continue
                passage = Passage(row, stands[path], chance.choice([mode, Mode(mode)]), owner, group)
                for below in walker.children(plain, path):
                    self.same(passage(below.rpartition("/")[2]), stands[below])
                self.same(passage.after, model[path][1])
                self.same(passage.word, tuple(k for k, number in enumerate(stands[path]) if number != -1))

    def test_steps_against_the_words_of_point_9(self):
        chance = random.Random(24)
        for _ in range(400):
            commands = [walker.random_command(chance) for _ in range(chance.randrange(8))]
            row = builds.row_of(commands)
            mode, owner, group = walker.random_mode(chance), chance.choice(walker.OWNERS), chance.choice(walker.GROUPS)
            lengths = [len(one[4].split("/")) if one[4] else 0 for one in commands]
            stand = tuple(chance.randint(-1, length) for length in lengths)
            wanted, entry = [], ["folder", mode, owner, group]
            for k, (user, change, order, kinds, start) in enumerate(commands):
                before = entry[1]
                if stand[k] == -1:
                    continue
                if stand[k] < lengths[k]:
                    told = walker.passes(user, entry)
                else:
                    if kinds != "files" and walker.may_change(user, entry):
                        entry[1] = oracle.image(change, "folder")[before]
                    told = walker.lists(user, entry if order == "first" else ["folder", before, owner, group])
                wanted.append((k, "on" if told else "bars", entry[1]))
            passage = Passage(row, stand, mode, owner, group)
            self.same(list(passage.steps()), wanted)
            self.same(passage.after, entry[1])
            for name in walker.NAMES:
                below = [-1] * len(commands)
                for k, told, after in wanted:
                    names = commands[k][4].split("/")
                    if told == "on" and stand[k] == lengths[k]:
                        below[k] = stand[k]
                    elif told == "on" and names[stand[k]] == name:
                        below[k] = stand[k] + 1
                self.same(passage(name), tuple(below))
                self.same(passage(name=name), tuple(below))

    def test_each_name(self):
        passage = Passage(ROW, (0, 0, 1, 1), 0o777, "ann", "staff")
        self.same([passage("b"), passage("c"), passage("d")], [(0, 1, -1, -1), (0, -1, 2, 2), (0, -1, -1, -1)])
        passage = Passage(ROW, (-1, 1, 2, 2), 0o777, "ann", "staff")
        self.same([passage("d"), passage("c")], [(-1, 1, 2, 3), (-1, 1, 2, -1)])

    def test_ahead_and_other(self):
        def row(*starts):
            return Row(*[Command(ANN, PLUS, start=start) for start in starts])
        for starts, stand, ahead, other in (
            ((), (), (), "a"), (("", ""), (0, 0), (), "a"), (("a", "a"), (0, 0), ("a",), "b"), (("b", "a"), (0, 0), ("a", "b"), "c"),
            (("b", "a"), (0, 1), ("b",), "a"), (("b", "a"), (0, -1), ("b",), "a"), (("b/a", "a/b/c"), (1, 2), ("a", "c"), "b"),
            (("ab", "b"), (0, 0), ("ab", "b"), "a"), (("b/a", "b/a/c"), (2, 2), ("c",), "a"),
            (tuple("jihgfedcba"), (0,) * 10, tuple("abcdefghij"), "k"),
        ):
            for mode in (0, 0o777):
                passage = Passage(row(*starts), stand, mode, "ann", "staff")
                self.same([passage.ahead, passage.other], [ahead, other])
                self.same(passage(passage.other), tuple(
                    0 if number == 0 and start == "" and mode == 0o777 else number if start.count("/") + 1 == number
                    and mode == 0o777 else -1 for start, number in zip(starts, stand)
                ))

    def test_the_order_of_commands(self):
        shut, wide = Command(ANN, Change.read("a-x")), Command(ANN, Change.read("a+x"), "last")
        row = Row(shut, wide, Command(BOB, PLUS), Command(Chief("cy"), Change.read("u-r"), kinds="files"))
        passage = Passage(row, (0, 0, 0, 0), 0o755, "ann", "staff")
        self.same(list(passage.steps()), [(0, "bars", 0o644), (1, "bars", 0o755), (2, "on", 0o755), (3, "on", 0o755)])
        self.same([passage("a"), passage.after, passage.word], [(-1, -1, 0, 0), 0o755, (0, 1, 2, 3)])

    def test_what_does_not_come_does_nothing(self):
        row = Row(Command(ANN, Change.read("a-x")), Command(ANN, Change.read("o+w")))
        passage = Passage(row, (-1, 0), 0o755, "ann", "staff")
        self.same([passage("a"), passage.after, list(passage.steps())], [(-1, 0), 0o757, [(1, "on", 0o757)]])

    def test_on_the_way_x_is_enough_and_nothing_is_changed(self):
        for mode in (0o100, 0o311, 0o600, 0o477):
            row = Row(Command(ANN, Change.read("a="), start="b"))
            passage = Passage(row, (0,), mode, "ann", "staff")
            on = bool(mode & 0o100)
            self.same([passage("b"), passage("c"), passage.after], [(1,) if on else (-1,), (-1,), mode])
            self.same(list(passage.steps()), [(0, "on" if on else "bars", mode)])

    def test_properties_are_only_read(self):
        passage = Passage(Row(), (), 0o750, "ann", "staff")
        for name in ("after", "word", "ahead", "other"):
            with self.assertRaises(AttributeError):
                setattr(passage, name, 5)
        self.same([passage.after, passage.word, passage("a"), list(passage.steps())], [0o750, (), (), []])

    def test_steps_may_be_asked_again(self):
        passage = Passage(Row(Command(ANN, PLUS)), (0,), 0o700, "ann", "staff")
        self.same(list(passage.steps()), list(passage.steps()))
        self.same(next(passage.steps()), (0, "on", 0o702))


class Behind(Case):
    def test_against_walks(self):
        chance = random.Random(25)
        for _ in range(400):
            plain, commands, model, stands = drawn(chance)
            row, tree = builds.row_of(commands), builds.tree_of(plain)
            for path in plain:
                self.same(behind(row, stands[path], tree.entry(path)), model[path][1])
            self.same(behind(entry=tree.entry(""), stand=stands[""], row=row), model[""][1])
            self.same(builds.plain(tree), {row[0]: plain[row[0]] for row in tree.rows()})

    def test_only_where_it_is_inside_meant_and_may(self):
        for user, may in ((ANN, True), (BOB, False), (Chief("bob"), True)):
            for kinds in Command.KINDS:
                for one, form in ((File, "files"), (Folder, "folders")):
                    row = Row(Command(user, Change.read("a="), "last", kinds, "a/b"))
                    entry = one(0o777, "ann", "ops")
                    for number in (-1, 0, 1, 2):
                        done = number == 2 and may and kinds in ("all", form)
                        self.same(behind(row, (number,), entry), 0 if done else 0o777)
                    self.same(entry.mode.number, 0o777)

    def test_in_order(self):
        row = Row(*[Command(ANN, Change.read(text)) for text in ("u=x", "g=u", "u=")])
        self.same([behind(row, stand, File(0o600, "ann", "a")) for stand in ((0, 0, 0), (-1, 0, 0), (0, -1, 0), (0, 0, -1))],
                  [0o010, 0o060, 0, 0o110])

    def test_a_folder_with_entries(self):
        folder = Folder(0o700, "ann", "a", b=File(0, "ann", "a"))
        self.same(behind(Row(Command(ANN, PLUS)), (0,), folder), 0o702)
        self.assertTrue(same([folder.mode.number, folder["b"].mode.number], [0o700, 0]))


if __name__ == "__main__":
    unittest.main()
