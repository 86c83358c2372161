"""Point 6, trials: Tree.trial and Tree.attempt."""

import unittest

from modesdown.changes import Change
from modesdown.commands import Command
from modesdown.errors import BadMode, ModesError, NoEntry
from modesdown.trees import File, Folder, Tree
from modesdown.users import User
from tests.case import Case
from tests.test_trees import ROWS, made


def changed(tree):
    """Changes modes, puts in and takes out."""
    tree["doc/note"] = 0
    tree[""] = 0o111
    tree.put("doc/new", File(1, "a", "a"))
    tree.take_out("src")
    tree.entry("doc/old").put("b", File(1, "a", "a"))


class Trials(Case):
    def test_not_left_by_an_error(self):
        tree, other = made(), made()
        with tree.trial() as held:
            self.assertIs(held, tree)
            changed(held)
        changed(other)
        self.assertEqual(tree, other)
        self.assertNotEqual(tree, made())

    def test_left_by_an_error_of_the_package(self):
        tree = made()
        with self.assertRaises(NoEntry) as held:
            with tree.trial() as inner:
                changed(inner)
                inner["src"] = 0
        self.same(held.exception.path, "src")
        self.same(tree.rows(), ROWS)

    def test_left_by_another_error(self):
        for error in (ZeroDivisionError, KeyError, TypeError, StopIteration, RuntimeError, KeyboardInterrupt):
            tree = made()
            with self.assertRaises(error) as held:
                with tree.trial():
                    changed(tree)
                    wrong = error("x")
                    raise wrong
            self.assertIs(held.exception, wrong)
            self.same(tree.rows(), ROWS)

    def test_left_by_a_return(self):
        tree = made()

        def deed():
            with tree.trial():
                changed(tree)
                return 5
        self.same(deed(), 5)
        self.assertNotEqual(tree, made())

    def test_as_it_was_when_the_block_began(self):
        tree = made()
        trial = tree.trial()
        tree["src"] = 0o111
        with self.assertRaises(BadMode):
            with trial:
                tree["src"] = 0o222
                tree["src"] = 512
        self.same(tree["src"].number, 0o111)

    def test_entries_that_were_handed_out_in_the_block(self):
        tree = made()
        with self.assertRaises(KeyError):
            with tree.trial():
                tree.entry("doc").set_mode(0)
                tree.entry("doc").put("deep", Folder(0, "a", "a", b=File(0, "a", "a")))
                for path, entry in list(tree.entries()):
                    entry.set_mode(0)
                raise KeyError
        self.same(tree.rows(), ROWS)

    def test_the_tree_can_be_changed_behind_an_error(self):
        tree = made()
        for number in (1, 2):
            with self.assertRaises(KeyError):
                with tree.trial():
                    changed(tree)
                    raise KeyError
            tree["src"] = number
            self.same(tree.rows(), ROWS[:5] + [("src", "file", number, "ann", "staff")])

    def test_an_inner_error_caught_in_the_outer_one(self):
        tree, other = made(), made()
        with tree.trial():
            tree["src"] = 1
            try:
                with tree.trial():
                    changed(tree)
                    raise KeyError
            except KeyError:
                pass
            self.same(tree.rows(), ROWS[:5] + [("src", "file", 1, "ann", "staff")])
            tree["doc"] = 2
        other["src"] = 1
        other["doc"] = 2
        self.assertEqual(tree, other)

    def test_the_outer_one_left_behind_an_inner_one_that_went_well(self):
        tree = made()
        with self.assertRaises(KeyError):
            with tree.trial():
                tree["doc"] = 2
                with tree.trial():
                    changed(tree)
                tree["doc"] = 3
                raise KeyError
        self.same(tree.rows(), ROWS)

    def test_an_error_through_both(self):
        tree = made()
        with self.assertRaises(KeyError):
            with tree.trial():
                tree["doc"] = 2
                with tree.trial():
                    changed(tree)
                    raise KeyError
        self.same(tree.rows(), ROWS)

    def test_three_deep(self):
        tree = made()
        with tree.trial():
            tree["doc"] = 1
            try:
                with tree.trial():
                    tree["doc"] = 2
                    try:
                        with tree.trial():
                            tree["doc"] = 3
                            raise KeyError
                    except KeyError:
                        self.same(tree["doc"].number, 2)
                    with tree.trial():
                        tree["doc"] = 4
                    raise ValueError
            except ValueError:
                self.same(tree["doc"].number, 1)
        self.same(tree["doc"].number, 1)

    def test_two_trees(self):
        one, other = made(), made()
        with self.assertRaises(KeyError):
            with one.trial():
                with other.trial():
                    changed(one)
                changed(other)
                raise KeyError
        self.same(one.rows(), ROWS)
        self.assertNotEqual(other, made())


class Attempts(Case):
    def test_what_the_function_returns(self):
        tree = made()
        for value in (None, 5, [tree], "x"):
            got = tree.attempt(lambda held: value)
            self.assertIs(got, value)
        self.assertIs(tree.attempt(lambda held: held), tree)
        self.same(tree.rows(), ROWS)

    def test_it_stays_done(self):
        tree, other = made(), made()
        self.assertIsNone(tree.attempt(deed=changed))
        changed(other)
        self.assertEqual(tree, other)

    def test_a_command(self):
        tree, other = made(), made()
        command = Command(User("ann"), Change.read("a-x"))
        self.same(tree.attempt(command), command(other))
        self.assertEqual(tree, other)

    def test_an_error(self):
        def deed(tree):
            changed(tree)
            tree["src"] = 0
        tree = made()
        self.fails(NoEntry, ("src",), tree.attempt, deed)
        self.same(tree.rows(), ROWS)
        self.assertTrue(issubclass(NoEntry, ModesError))

        def other(tree):
            changed(tree)
            return 1 // 0
        with self.assertRaises(ZeroDivisionError):
            tree.attempt(other)
        self.same(tree.rows(), ROWS)

    def test_nested(self):
        def inner(tree):
            changed(tree)
            raise KeyError

        def outer(tree):
            tree["src"] = 9
            try:
                tree.attempt(inner)
            except KeyError:
                return "caught"
        tree = made()
        self.same(tree.attempt(outer), "caught")
        self.same(tree.rows(), ROWS[:5] + [("src", "file", 9, "ann", "staff")])
        self.assertIs(type(tree), Tree)


if __name__ == "__main__":
    unittest.main()
