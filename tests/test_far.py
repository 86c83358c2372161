"""Points 2 and 15 and the heading modesdown/far.py."""

import random
import time
import unittest

from modesdown.changes import Change
from modesdown.commands import Command
from modesdown.errors import BadBeat, BadPath, NoEntry
from modesdown.far import Beat, beats, comings, far, far_mode, round_of, shows_comings
from modesdown.modes import Mode
from modesdown.trees import File, Folder, Tree
from modesdown.users import Chief, User
from tests import builds, oracle, walker
from tests.case import Case, is_path
from tests.samples import any_values, is_integer, same

ANN = User("ann", "staff")
TURN = Command(ANN, Change.read("u=g,g=o,o=u"))
# Changes that go round, that come to an end, or both.
TEXTS = ["u=g,g=o,o=u", "u=g,g=o", "g=u,u=o", "u=o,o=g", "a-x", "u+rx", "u=g", "go=u", "u=g,g=o,o=u,a+w", "u=o,o=g,g=u,o-r", "a+X"]
FAR = 10 ** 60


def chain_tree():
    inner = Folder(0o007, "ann", "staff")
    return Tree(Folder(0o007, "ann", "staff", a=Folder(0o007, "ann", "staff", a=inner)))


def drawn(chance):
    """A plain tree and a plain command, which often changes folders and goes in."""
    tree = walker.open_tree(chance, 12)
    user, change, order, kinds, start = walker.random_command(chance)
    if chance.random() < 0.7:
        change = chance.choice(TEXTS)
    if chance.random() < 0.7:
        for entry in tree.values():
            if chance.random() < 0.8:
                entry[2] = user[1]
    return tree, (user, change, order, kinds, start)


def rounds_of(tree, command, many):
    """For each path: the rounds that came to it, counted from 1; and the trees behind none, one and so on."""
    now, came, trees = builds.copied(tree), {path: [] for path in tree}, [builds.copied(tree)]
    for k in range(1, many + 1):
        for path in walker.Walk(command, now).came:
            came[path].append(k)
        trees.append(builds.copied(now))
    return came, trees


def plain_beat(tree, command, path):
    """Point 15 word for word: the lead, the period and the answers of the beat of an entry."""
    user, change, order, kinds, start = command
    above, _, name = path.rpartition("/")
    folder = tree[above]
    start_names, names = start.split("/") if start else [], above.split("/") if above else []
    if names[:len(start_names)] != start_names:
        on_way = start_names[:len(names)] == names and start_names[len(names)] == name
        return 0, 1, (on_way and walker.passes(user, folder),)
    modes = [folder[1]]
    if kinds != "files" and walker.may_change(user, folder):
        for _ in range(40):
            modes.append(oracle.image(change, "folder")[modes[-1]])
    else:
        modes = modes * 41
    lead = next(k for k in range(20) if modes[k] in modes[k + 1:])
    period = modes.index(modes[lead], lead + 1) - lead
    seen = [modes[c] if order == "first" else modes[c - 1] for c in range(1, lead + period + 1)]
    return lead, period, tuple(walker.lists(user, ["folder", mode, *folder[2:]]) for mode in seen)


class Beats(Case):
    def test_parts(self):
        beat = Beat(1, 2, (False, True, False))
        self.same([beat.lead, beat.period, beat.answers], [1, 2, (False, True, False)])
        beat = Beat(answers=(True,), period=1, lead=0)
        self.same([beat.lead, beat.period, beat.answers], [0, 1, (True,)])
        for name in ("lead", "period", "answers"):
            with self.assertRaises(AttributeError):
                setattr(beat, name, 5)
        self.same(len(Beat(1000, 2000, (True,) * 3000).answers), 3000)

    def test_wrong_parts_the_first_one_told(self):
        for value in any_values() + [1.0, "1"]:
            if not (is_integer(value) and value >= 0):
                self.fails(BadBeat, ("lead",), Beat, value, 1, (True,))
                self.fails(BadBeat, ("lead",), Beat, value, value, value)
            elif value != 0:
                self.fails(BadBeat, ("answers",), Beat, value, 1, (True,))
            if not (is_integer(value) and value >= 1):
                self.fails(BadBeat, ("period",), Beat, 0, value, (True,))
                self.fails(BadBeat, ("period",), Beat, 0, value, None)
            elif value != 1:
                self.fails(BadBeat, ("answers",), Beat, 0, value, (True,))
            self.fails(BadBeat, ("answers",), Beat, 0, 1, value)
            if not isinstance(value, bool):
                self.fails(BadBeat, ("answers",), Beat, 1, 1, (True, value))
                self.fails(BadBeat, ("answers",), Beat, 1, 1, (value, False))
        for wrong in ([True, False], (True,), (True, False, True), (), (1, 0), (True, 0), (None, True), {True: 1, False: 0}, "ab"):
            self.fails(BadBeat, ("answers",), Beat, 1, 1, wrong)
        self.same(Beat(1, 1, (True, False)).answers, (True, False))

    def test_equal(self):
        beat = Beat(1, 1, (True, False))
        self.same([beat == Beat(1, 1, (True, False)), beat != Beat(1, 1, (True, False))], [True, False])
        for other in (Beat(0, 2, (True, False)), Beat(1, 1, (True, True)), Beat(2, 1, (True, False, False))):
            self.same([beat == other, other == beat, beat != other], [False, False, True])
        for value in any_values() + [(1, 1, (True, False))]:
            self.same([beat == value, value == beat], [False, False])

    def test_each_coming_one_by_one(self):
        chance = random.Random(101)
        for _ in range(150):
            lead, period = chance.randrange(5), chance.randint(1, 5)
            beat = Beat(lead, period, tuple(chance.random() < chance.choice([0.2, 0.5, 0.9]) for _ in range(lead + period)))
            told = list(beat.answers)
            while len(told) < 60:
                told.append(told[-period])
            self.same([beat(c) for c in range(1, 61)], told)
            self.same([beat.through(c) for c in range(61)], [sum(told[:c]) for c in range(61)])
            going = [c for c, answer in enumerate(told, 1) if answer]
            self.same([beat.nth(k) for k in range(1, len(going) + 1)], going)
            if not any(beat.answers[lead:]):
                self.same([beat.nth(len(going) + 1), beat.nth(len(going) + 7), beat.nth(10 ** 79)], [None] * 3)

    def test_far_comings(self):
        beat = Beat(2, 3, (True, False, True, True, False))
        far_one = 3 * 10 ** 79 + 2
        self.same([beat(far_one + k) for k in (1, 2, 3)], [True, True, False])
        self.same([beat.through(far_one), beat.through(far_one + 2)], [1 + 2 * 10 ** 79, 3 + 2 * 10 ** 79])
        self.same([beat.nth(1), beat.nth(2 * 10 ** 79 + 2), beat.nth(2 * 10 ** 79 + 3)], [1, far_one + 1, far_one + 2])
        for k in (1, 2, 3, 10 ** 78, 10 ** 79 + 1):
            self.same([beat(beat.nth(k)), beat.through(beat.nth(k)), beat.through(beat.nth(k) - 1)], [True, k, k - 1])
        never = Beat(2, 1, (True, False, False))
        self.same([never.through(10 ** 80 - 1), never.nth(1), never.nth(2), never(10 ** 80 - 1)], [1, 1, None, False])
        always = Beat(0, 1, (True,))
        self.same([always.through(10 ** 80 - 1), always.nth(10 ** 80 - 1), always.through(0)], [10 ** 80 - 1, 10 ** 80 - 1, 0])


class OnTrees(Case):
    def test_beats_against_walks(self):
        chance = random.Random(102)
        seen = set()
        for _ in range(150):
            tree, command = drawn(chance)
            made, asked = builds.tree_of(tree), builds.command_of(command)
            before = made.rows()
            came, _ = rounds_of(tree, command, 25)
            for path in tree:
                told = beats(made, asked, path)
                self.assertIs(type(told), list)
                names = path.split("/") if path else []
                beginnings = ["/".join(names[:k]) for k in range(len(names) + 1)]
                self.same(told, [Beat(*plain_beat(tree, command, one)) for one in beginnings[1:]])
                for above, below, beat in zip(beginnings, beginnings[1:], told):
                    on = [k for c, k in enumerate(came[above], 1) if beat(c)]
                    self.same(came[below], on)
                    seen.add((beat.lead, beat.period, len(set(beat.answers))))
            self.same(made.rows(), before)
        self.assertLessEqual({(0, 1, 1), (1, 1, 2), (2, 1, 1), (1, 2, 2)}, seen)

    def test_none_to_some_rounds(self):
        chance = random.Random(103)
        for _ in range(100):
            tree, command = drawn(chance)
            made, asked = builds.tree_of(tree), builds.command_of(command)
            before = made.rows()
            came, trees = rounds_of(tree, command, 14)
            for rounds in (0, 1, 2, 3, 7, 14):
                got = far(made, asked, rounds)
                self.assertIs(type(got), Tree)
                self.same(builds.plain(got), trees[rounds])
                for path in tree:
                    self.same(comings(made, asked, path, rounds), len([k for k in came[path] if k <= rounds]))
                    self.same(far_mode(made, asked, path, rounds), Mode(trees[rounds][path][1]))
            for path in tree:
                for k, told in enumerate(came[path], 1):
                    self.same(round_of(made, asked, path, k), told)
                behind = round_of(made, asked, path, len(came[path]) + 1)
                self.assertTrue(behind is None or is_integer(behind) and behind > 14)
            self.same(made.rows(), before)

    def test_very_many_rounds_by_adding_up(self):
        chance = random.Random(104)
        deep = 0
        for _ in range(200):
            tree, command = drawn(chance)
            made, asked = builds.tree_of(tree), builds.command_of(command)
            half = far(made, asked, 10 ** 59 + 7)
            for more in (0, 3, 10 ** 30 + 1):
                whole = far(made, asked, 10 ** 59 + 7 + more)
                self.same(far(half, asked, more), whole)
                for path in tree:
                    first, both = comings(made, asked, path, 10 ** 59 + 7), comings(made, asked, path, 10 ** 59 + 7 + more)
                    self.same(first + comings(half, asked, path, more), both)
                    self.same(far_mode(made, asked, path, 10 ** 59 + 7 + more), whole[path])
                    if both > 0:
                        last = round_of(made, asked, path, both)
                        self.assertLessEqual(last, 10 ** 59 + 7 + more)
                        self.same([comings(made, asked, path, last), comings(made, asked, path, last - 1)], [both, both - 1])
                        deep += both > 10 ** 50 and path.count("/") > 1
        self.assertGreater(deep, 20)

    def test_rounds_that_come_ever_more_rarely(self):
        tree = chain_tree()
        self.same(beats(tree, TURN, "a/a"), [Beat(1, 2, (False, True, False))] * 2)
        self.same(beats(tree, TURN, "a"), [Beat(1, 2, (False, True, False))])
        self.same([round_of(tree, TURN, "a", 10 ** 59), round_of(tree, TURN, "a/a", 10 ** 59)], [2 * 10 ** 59, 4 * 10 ** 59])
        self.same([comings(tree, TURN, path, FAR) for path in ("", "a", "a/a")], [FAR, FAR // 2, FAR // 4])
        self.same([far_mode(tree, TURN, path, FAR).number for path in ("", "a", "a/a")], [0o707, 0o707, 0o707])
        self.same([far_mode(tree, TURN, path, FAR - 1).number for path in ("", "a", "a/a")], [0o070, 0o070, 0o070])

    def test_the_top(self):
        for command in (TURN, Command(ANN, Change.read("a="), start="b"), Command(User("bob"), Change.read("a="))):
            self.same([beats(chain_tree(), command, ""), comings(chain_tree(), command, "", 17)], [[], 17])
            self.same([round_of(chain_tree(), command, "", 5), comings(chain_tree(), command, "", 0)], [5, 0])
        self.same([far_mode(chain_tree(), TURN, "", k).number for k in (0, 1, 2, 3)], [0o007, 0o070, 0o707, 0o070])

    def test_on_the_way_missing_and_below_files(self):
        top = Folder(0o711, "ann", "staff", a=Folder(0o711, "bob", "staff", b=Folder(0o700, "ann", "staff", c=File(0o600, "ann", "g"))),
                     f=File(0o600, "ann", "g"), d=Folder(0o700, "ann", "staff"))
        tree = Tree(top)
        inside = Command(ANN, Change.read("u-x"), start="a/b")
        self.same(beats(tree, inside, "a/b/c"), [Beat(0, 1, (True,)), Beat(0, 1, (True,)), Beat(1, 1, (False, False))])
        self.same(beats(tree, Command(ANN, Change.read("u-x"), "last", start="a/b"), "a/b/c")[2], Beat(1, 1, (True, False)))
        self.same([comings(tree, inside, path, 5) for path in ("a", "a/b", "a/b/c", "d", "f")], [5, 5, 0, 0, 0])
        self.same([beats(tree, inside, path) for path in ("d", "f")], [[Beat(0, 1, (False,))]] * 2)
        self.same(beats(tree, Command(ANN, Change.read("u-x"), start="d"), "a/b")[1], Beat(0, 1, (False,)))
        missing = Command(ANN, Change.read("u-x"), start="a/x/y")
        self.same([comings(tree, missing, path, 9) for path in ("", "a", "a/b")], [9, 9, 0])
        self.same(far(tree, missing, FAR), tree)
        below = Command(ANN, Change.read("u-x"), start="f/x")
        self.same([comings(tree, below, "f", 9), far(tree, below, 9) == tree, beats(tree, below, "f")], [9, True, [Beat(0, 1, (True,))]])
        closed = Tree(Folder(0o600, "ann", "g", a=Folder(0o700, "ann", "g")))
        self.same([comings(closed, inside, "a", FAR), round_of(closed, inside, "a", 1)], [0, None])
        file_start = Command(ANN, Change.read("u-r"), start="f")
        self.same([comings(tree, file_start, "f", 3), far_mode(tree, file_start, "f", 3).number, beats(tree, file_start, "f")],
                  [3, 0o200, [Beat(0, 1, (True,))]])

    def test_a_chief_and_an_entry_of_another(self):
        tree = Tree(Folder(0o007, "bob", "g", a=File(0o007, "bob", "g")))
        chief = Command(Chief("cy"), Change.read("u=g,g=o,o=u"))
        self.same(beats(tree, chief, "a"), [Beat(1, 2, (True, True, True))])
        self.same([mode.number for mode in (far_mode(tree, chief, "a", 1), far_mode(tree, chief, "a", 2), far(tree, chief, 3)["a"])],
                  [0o070, 0o707, 0o070])
        self.same([beats(tree, TURN, "a"), far_mode(tree, TURN, "a", 7).number], [[Beat(0, 1, (True,))], 0o007])
        files = Command(Chief("cy"), Change.read("u=g,g=o,o=u"), kinds="files")
        self.same([beats(tree, files, "a"), far_mode(tree, files, "", 5).number], [[Beat(0, 1, (True,))], 0o007])

    def test_the_lead_and_the_period_are_of_all_letters(self):
        # The w goes round beside r and x that stay.
        swing = Command(Chief("cy"), Change.read("u=g,g=o,o=u"))
        tree = Tree(Folder(0o002, "ann", "g", a=File(0, "ann", "g")))
        self.same(beats(tree, swing, "a"), [Beat(1, 2, (True,) * 3)])

    def test_what_is_told_is_new(self):
        tree = chain_tree()
        told = beats(tree, TURN, "a/a")
        told.clear()
        self.same(len(beats(tree, TURN, "a/a")), 2)
        made = far(tree, TURN, 0)
        self.same(made, tree)
        made["a"] = 0o123
        made.take_out("a/a")
        self.same([tree["a"].number, "a/a" in tree], [0o007, True])

    def test_paths_as_of_all_paths(self):
        calls = [
            lambda path: beats(chain_tree(), TURN, path), lambda path: comings(chain_tree(), TURN, path, 5),
            lambda path: round_of(chain_tree(), TURN, path, 5), lambda path: far_mode(chain_tree(), TURN, path, 5),
            lambda path: shows_comings(chain_tree(), TURN, path, None, 5, None),
        ]
        for value in any_values():
            for call in calls:
                if not is_path(value):
                    self.fails(BadPath, (value,), call, value)
                elif value not in ("", "a", "a/a"):
                    self.fails(NoEntry, (value,), call, value)

    def test_a_full_tree_with_deep_folders(self):
        top = Folder(0o007, "ann", "staff")
        for _ in range(59):
            top = Folder(0o007, "ann", "staff", a=top)
        tree = Tree(top)
        began = time.monotonic()
        path = "/".join(["a"] * 59)
        self.same(comings(tree, TURN, path, 2 ** 59), 1)
        self.same(comings(tree, TURN, path, FAR), FAR // 2 ** 59)
        self.same(round_of(tree, TURN, path, 1), 2 ** 59)
        self.same(far(tree, TURN, FAR).size(), 60)
        self.same(shows_comings(tree, TURN, path, beats(tree, TURN, path), FAR, FAR // 2 ** 59), True)
        self.assertLess(time.monotonic() - began, 10)


class Shown(Case):
    def test_right_steps(self):
        chance = random.Random(105)
        for _ in range(60):
            tree, command = drawn(chance)
            made, asked = builds.tree_of(tree), builds.command_of(command)
            for path in tree:
                steps = chance.choice([list, tuple])(beats(made, asked, path))
                for rounds in (0, 1, 5, FAR):
                    number = comings(made, asked, path, rounds)
                    self.same(shows_comings(made, asked, path, steps, rounds, number), True)
                    for wrong in (number + 1, number - 1, -number - 1, None, str(number)):
                        self.same(shows_comings(made, asked, path, steps, rounds, wrong), False)

    def test_a_lead_or_a_period_that_is_not_least(self):
        chance = random.Random(106)
        longer = 0
        for _ in range(80):
            tree, command = drawn(chance)
            made, asked = builds.tree_of(tree), builds.command_of(command)
            for path in [path for path in tree if path]:
                least = beats(made, asked, path)
                steps = []
                for beat in least:
                    lead, period = beat.lead + chance.randrange(3), beat.period * chance.randint(1, 3)
                    steps.append(Beat(lead, period, tuple(beat(c) for c in range(1, lead + period + 1))))
                number = comings(made, asked, path, FAR)
                self.same(shows_comings(made, asked, path, steps, FAR, number), True)
                longer += steps != least
        self.assertGreater(longer, 100)

    def test_a_part_otherwise(self):
        chance = random.Random(107)
        wrong = 0
        for _ in range(80):
            tree, command = drawn(chance)
            made, asked = builds.tree_of(tree), builds.command_of(command)
            for path in [path for path in tree if path]:
                steps = beats(made, asked, path)
                at = chance.randrange(len(steps))
                beat = steps[at]
                turned = chance.randrange(len(beat.answers))
                answers = tuple(answer != (k == turned) for k, answer in enumerate(beat.answers))
                number = comings(made, asked, path, 9)
                for other in (
                    Beat(beat.lead, beat.period, answers), Beat(beat.lead, beat.period + 1, beat.answers + (beat.answers[-1],)),
                    Beat(beat.lead - 1, beat.period, beat.answers[1:]) if beat.lead else None, beat.answers, None,
                ):
                    told = steps[:at] + [other] + steps[at + 1:]
                    wanted = isinstance(other, Beat) and self.fits(tree, command, path, at, other)
                    self.same(shows_comings(made, asked, path, told, 9, number), wanted and number == self.led(told, 9))
                    wrong += not wanted
                self.same(shows_comings(made, asked, path, steps[:at] + steps[at + 1:], 9, number), False)
                self.same(shows_comings(made, asked, path, steps + [beat], 9, number), False)
        self.assertGreater(wrong, 500)

    def led(self, steps, rounds):
        for beat in steps:
            rounds = beat.through(rounds)
        return rounds

    def fits(self, tree, command, path, at, beat):
        """Whether a beat is right for the folder: told coming by coming."""
        below = "/".join(path.split("/")[:at + 1])
        right = Beat(*plain_beat(tree, command, below))
        user, change, order, kinds, start = command
        folder = tree[below.rpartition("/")[0]]
        modes = [folder[1]]
        above = below.rpartition("/")[0]
        inside = start == "" or above == start or above.startswith(start + "/")
        for _ in beat.answers:
            moved = inside and kinds != "files" and walker.may_change(user, folder)
            modes.append(oracle.image(change, "folder")[modes[-1]] if moved else modes[-1])
        return modes[beat.lead] == modes[-1] and beat.answers == tuple(right(c) for c in range(1, len(modes)))

    def test_the_answers_may_fit_though_the_modes_do_not_come_again(self):
        tree = Tree(Folder(0o007, "bob", "g", a=File(0, "bob", "g")))
        chief = Command(Chief("cy"), Change.read("u=g,g=o,o=u"))
        self.same(shows_comings(tree, chief, "a", [Beat(0, 1, (True,))], 5, 5), False)
        self.same(shows_comings(tree, chief, "a", [Beat(1, 1, (True,) * 2)], 5, 5), False)
        self.same(shows_comings(tree, chief, "a", [Beat(0, 2, (True,) * 2)], 5, 5), False)
        for lead, period in ((1, 2), (2, 2), (1, 4), (7, 6)):
            self.same(shows_comings(tree, chief, "a", [Beat(lead, period, (True,) * (lead + period))], 5, 5), True)

    def test_where_nothing_changes_any_lead_and_period_will_do(self):
        tree = Tree(Folder(0o711, "ann", "g", a=Folder(0o700, "ann", "g", b=File(0, "ann", "g"))))
        way = Command(ANN, Change.read("u-x"), start="a/b")
        self.same(shows_comings(tree, way, "a/b", (Beat(2, 3, (True,) * 5), Beat(0, 1, (True,))), FAR, FAR), True)
        self.same(shows_comings(tree, way, "a/b", (Beat(2, 3, (True,) * 4 + (False,)), Beat(0, 1, (True,))), 3, 3), False)

    def test_any_values(self):
        tree, path = chain_tree(), "a/a"
        right = beats(tree, TURN, path)
        self.same(shows_comings(tree, TURN, path, right, 9, 2), True)
        self.same(shows_comings(number=2, rounds=9, steps=tuple(right), path=path, command=TURN, tree=tree), True)
        for value in any_values() + [2.0, True, 10 ** 80 - 1]:
            self.same(shows_comings(tree, TURN, path, value, 9, 2), False)
            self.same(shows_comings(tree, TURN, path, [value, right[1]], 9, 2), False)
            self.same(shows_comings(tree, TURN, path, (right[0], value), 9, 2), False)
            self.same(shows_comings(tree, TURN, path, right, 9, value), same(value, 2))
            self.same(shows_comings(tree, TURN, path, right, 5, value), same(value, 1))
            self.same(shows_comings(tree, TURN, "", value, 5, 5), value == [] or value == ())
            self.same(shows_comings(tree, TURN, "", [], 5, value), same(value, 5))
        self.same(shows_comings(tree, TURN, "a", {0: right[0]}, 9, 4), False)


if __name__ == "__main__":
    unittest.main()
