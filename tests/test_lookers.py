"""Points 2, 11, 12, 13, 16 and 18 and the heading modesdown/lookers.py."""

import random
import time
import unittest

from modesdown.alike import alike, at_most, exchanged, needless
from modesdown.back import leads_back
from modesdown.changes import Change
from modesdown.commands import Command, Row
from modesdown.errors import BadMode, NoCommand, TooMany
from modesdown.kinds import Kind, Line
from modesdown.lasting import ends_in, never_lost
from modesdown.lookers import (
    is_chain, is_closed, shows_alike, shows_at_most, shows_ends_in, shows_exchanged, shows_led_back, shows_needless,
    shows_never_lost,
)
from modesdown.modes import Mode
from modesdown.stands import Stands
from modesdown.users import Chief, User
from tests import builds, joints, walker
from tests.case import Case, is_name
from tests.samples import any_values, is_integer, same
from tests.test_alike import variant
from tests.test_back import drawn as drawn_back
from tests.test_lasting import drawn_row, random_goal
from tests.test_stands import ANN, MEND, NO_FOLDERS, USERS, wide_row

OPENED = Row(Command(ANN, Change.read("u+rx")))
SHUT = Row(Command(ANN, Change.read("u-x")))
OWN = Kind(Line("folder", ["ann"]), Line("file", ["ann"]))
TOP, NONE = ((0,), (0, 0)), ((-1,), (-1, -1))
LINK = ("", "folder", 0o755, "ann", "g")


def is_stand(row, stand):
    return type(stand) is tuple and len(stand) == len(row) and all(
        is_integer(number) and -1 <= number <= len(joints.names_of(command)) for number, command in zip(stand, row)
    )


def closed(lines, rows, listed):
    """Point 11 of a value: all folder types are gone through."""
    if type(listed) is not tuple:
        return False
    for joint in listed:
        if type(joint) is not tuple or len(joint) != len(rows) or not all(is_stand(row, stand) for row, stand in zip(rows, joint)):
            return False
    types = joints.folders(lines, rows)
    reached = set()
    for joint in (joints.top_of(rows), *listed):
        reached |= joints.next_to(types, rows, joint)
    return reached <= set(listed) and len(set(listed)) == len(listed)


def is_plain_chain(lines, chain):
    """Point 18 of a value."""
    if type(chain) is not tuple or not 1 <= len(chain) <= 60:
        return False
    for at, link in enumerate(chain):
        if type(link) is not tuple or len(link) != 5:
            return False
        name, form, mode, owner, group = link
        if not (is_name(name) if at else same(name, "")) or form not in ("file", "folder"):
            return False
        if not is_integer(mode) or not 0 <= mode <= 511 or not is_name(owner) or not is_name(group):
            return False
        if form == "file" and (at == 0 or at < len(chain) - 1) or not joints.is_let(lines, form, mode, owner, group):
            return False
    return True


def shown(lines, rows, paper, agreed, ended):
    """Point 18: agreed is asked at each joint stand, ended of the plain chain and its last path."""
    if type(paper) is not tuple or len(paper) != 2:
        return False
    if same(paper[0], "yes"):
        if not closed(lines, rows, paper[1]) or not agreed(joints.top_of(rows), ("folder",)):
            return False
        return all(agreed(joint, ("file", "folder")) for joint in paper[1])
    if same(paper[0], "no") and is_plain_chain(lines, paper[1]):
        tree = builds.plain_chain(paper[1])
        return ended(tree, list(tree)[-1])
    return False


def compared(lines, one, other, paper, mask, below):
    def agreed(joint, forms):
        return not any(joints.parts(lines, one, other, joint, form, mask, below) for form in forms)

    def ended(tree, last):
        left = []
        for row in (one, other):
            made = builds.copied(tree)
            walker.played(row, made)
            left.append(made[last][1] & mask)
        return left[0] & ~left[1] != 0 if below else left[0] != left[1]
    return shown(lines, [one, other], paper, agreed, ended)


def lost(lines, row, paper):
    types = joints.folders(lines, [row])
    return shown(
        lines, [row], paper, lambda joint, forms: not joints.loses(types, row, joint[0]),
        lambda tree, last: last in joints.lost_in(row, tree),
    )


def ended_in(lines, row, goal, paper):
    straying = joints.Straying(lines, goal, row)

    def ended(tree, last):
        walker.played(row, tree)
        return not joints.is_let(goal, *tree[last])
    return shown(lines, [row], paper, lambda joint, forms: not any(straying.strays(joint[0], form) for form in forms), ended)


def led(lines, row, more, command, paper):
    def ended(tree, last):
        before = walker.Walk(command, builds.copied(tree)).came
        for one in row + more:
            walker.Walk(one, tree)
        return last in before and last not in walker.Walk(command, tree).came
    return shown(
        lines, [[command], row + more + [command]], paper,
        lambda joint, forms: joint[0][0] == -1 or joint[1][-1] != -1, ended,
    )


def papers(chance, rows, paper):
    """A paper, and papers with a part more, less, twice, otherwise or in another order."""
    answer, listed = paper
    made = [paper, ("no" if answer == "yes" else "yes", listed), (answer, list(listed)), [answer, listed], (answer,), (answer, ())]
    at = chance.randrange(len(listed)) if listed else 0
    made.append((answer, listed[:at] + listed[at + 1:]))
    made.append((answer, listed[:at + 1] + listed[at:]))
    made.append((answer, listed[::-1]))
    if answer == "yes":
        made.append((answer, tuple(sorted(listed, key=lambda joint: chance.random()))))
        for _ in range(3):
            # It may well be one that does not come about.
            joint = tuple(tuple(chance.randint(-1, len(joints.names_of(command))) for command in row) for row in rows)
            made.append((answer, listed + (joint,)))
            made.append((answer, listed[:at] + (joint,) + listed[at + 1:]))
        made.append((answer, listed + (joints.top_of(rows),)))
    else:
        for k in range(5):
            link = list(listed[at])
            link[k] = chance.choice([["a", "b", ""], ["file", "folder"], [0, 0o777, 0o700, 0o070], ["ann", "bob"], ["staff", "g"]][k])
            made.append((answer, listed[:at] + (tuple(link),) + listed[at + 1:]))
        more = [("a", "folder", chance.choice([0o777, 0o755, 0]), chance.choice(["ann", "bob"]), "staff") for _ in range(chance.randint(1, 3))]
        made.append((answer, listed[:1] + tuple(more) + listed[1:]))
        made.append((answer, listed + tuple(more)))
        made.append((answer, (("", "folder", 0o777, "zed", "zed"), ("a", *listed[0][1:])) + listed[1:]))
    return made


def drawn_rows(chance, users, most=3):
    one = drawn_row(chance, users, most)
    return one, variant(chance, one)


class Closed(Case):
    def test_against_all_folder_types(self):
        chance = random.Random(131)
        seen = []
        for _ in range(70):
            users, lines = chance.choice(USERS), joints.random_kind(chance)
            rows = [drawn_row(chance, users, 2) for _ in range(chance.randint(1, 3))]
            kind, made = builds.kind_of(lines), [builds.row_of(row) for row in rows]
            listed = Stands(kind, *made).listed
            for _, told in papers(chance, rows, ("yes", listed))[5:]:
                wanted = closed(lines, rows, told)
                self.same(is_closed(kind, made, told), wanted)
                self.same(is_closed(kind, tuple(made), told), wanted)
                seen.append(wanted)
            self.same(is_closed(kind, made, listed), True)
        self.assertGreater(min(seen.count(True), seen.count(False)), 150)

    def test_joint_stands_that_do_not_come_about(self):
        pair = [OPENED, OPENED * 2]
        self.same([is_closed(Kind.every(), pair, told) for told in (
            (TOP, NONE), (NONE, TOP), (TOP,), (NONE,), (), (TOP, NONE, TOP), (TOP, NONE, ((0,), (-1, -1))),
            (TOP, NONE, ((0,), (-1, -1)), ((0,), (0, -1))),
        )], [True, True, False, False, False, False, True, True])
        # What is next to a joint stand that does not come about must be there, too.
        row = Row(Command(ANN, Change.read("u+x")), Command(ANN, Change.read("u+r,u-x"), "last"))
        kind = Kind(Line("folder", ["ann"], must=0o400), Line("file"))
        self.same(Stands(kind, row).listed, (((0, 0),),))
        self.same([is_closed(kind, [row], told) for told in (
            (((0, 0),),), (((0, 0),), ((-1, 0),)), (((0, 0),), ((-1, 0),), ((-1, -1),)), (((-1, -1),), ((0, 0),)),
        )], [True, False, True, True])

    def test_without_folders_and_without_a_kind(self):
        for listed in ((), (TOP,), (NONE, TOP)):
            self.same(is_closed(NO_FOLDERS, [OPENED, OPENED * 2], listed), True)
            self.same(is_closed(None, [OPENED, OPENED * 2], listed), is_closed(Kind.every(), [OPENED, OPENED * 2], listed))
        self.same(is_closed(NO_FOLDERS, [OPENED, OPENED * 2], (TOP, TOP)), False)
        self.same([is_closed(Kind.every(), [Row()], ()), is_closed(Kind.every(), [Row()], (((),),))], [False, True])

    def test_any_values(self):
        pair = [OPENED, OPENED * 2]
        for value in any_values() + [[TOP, NONE], (list(TOP), NONE), (([0], (0, 0)), NONE), {TOP: 1, NONE: 2}]:
            self.same(is_closed(Kind.every(), pair, value), False)
            self.same(is_closed(Kind.every(), pair, (TOP, NONE, value)), False)
            self.same(is_closed(Kind.every(), pair, (TOP, value)), False)
            self.same(is_closed(Kind.every(), pair, (TOP, NONE, ((0,), value))), False)
            self.same(is_closed(Kind.every(), pair, (TOP, NONE, ((-1,), (value, 0)))), same(value, -1) or same(value, 0))
            self.same(is_closed(listed=(TOP, NONE, ((-1,), (0, 0), value)), rows=pair, kind=Kind.every()), False)
        for wrong in (((0,), (0, True)), ((0,), (False, 0)), ((0,), (1, 0)), ((0,), (-2, 0)), ((0,), (0,)), ((0,), (0, 0, 0)), ((0,),)):
            self.same(is_closed(Kind.every(), pair, (TOP, NONE, wrong)), False)

    def test_very_many_joint_stands(self):
        lines, row, many = wide_row()
        made, kind = builds.row_of(row), builds.kind_of(lines)
        listed = Stands(kind, made, most=many).listed
        began = time.monotonic()
        self.same([is_closed(kind, [made], listed), is_closed(kind, [made], listed[1:] + listed[:1])], [True, True])
        self.same([is_closed(kind, [made], listed[:at] + listed[at + 1:]) for at in range(0, many, 40)], [False] * len(range(0, many, 40)))
        self.assertLess(time.monotonic() - began, 20)


class Chains(Case):
    def test_against_point_18(self):
        chance = random.Random(132)
        seen = []
        for _ in range(400):
            lines = joints.random_kind(chance)
            chain = []
            for at in range(chance.randint(0, 4)):
                form = chance.choice(["folder", "folder", "folder", "file"])
                mode = chance.choice([0, 0o555, 0o755, 0o511, 512, True]) if chance.random() < 0.2 else chance.choice([0o555, 0o544, 0o700])
                name = chance.choice(["a", "b", "", "A"]) if chance.random() < 0.2 else ("a" if at else "")
                chain.append((name, form, mode, chance.choice(["ann", "bob"]), chance.choice(["staff", "ops"])))
            wanted = is_plain_chain(lines, tuple(chain))
            self.same(is_chain(builds.kind_of(lines), tuple(chain)), wanted)
            seen.append(wanted)
        self.assertGreater(min(seen.count(True), seen.count(False)), 50)

    def test_one_sixty_and_sixty_one_entries(self):
        link = ("a", "folder", 0, "ann", "g")
        for many, wanted in ((0, False), (1, True), (59, True), (60, True), (61, False), (200, False)):
            chain = ((LINK,) + (link,) * 200)[:many]
            self.same([is_chain(Kind.every(), chain), is_chain(None, chain), is_chain(OWN, chain)], [wanted] * 3)
        last = (LINK,) + (link,) * 58 + (("b", "file", 0, "ann", "g"),)
        self.same([is_chain(Kind.every(), last), is_chain(OWN, last)], [True, True])

    def test_the_top_and_files(self):
        file = ("a", "file", 0, "ann", "g")
        for chain, wanted in (
            ((LINK, file), True), ((LINK, file, file), False), ((file,), False), ((("", "file", 0, "ann", "g"),), False),
            ((LINK, LINK), False), ((LINK, ("a", *LINK[1:])), True), ((("a", *LINK[1:]),), False), ((LINK, file, ("a", *LINK[1:])), False),
        ):
            self.same(is_chain(Kind.every(), chain), wanted)

    def test_of_the_kind(self):
        kind = Kind(Line("folder", ["ann"], must=0o500), Line("file", None, ["g"], never=0o7))
        chain = (("", "folder", 0o722, "ann", "x"), ("a", "file", 0o770, "zed", "g"))
        self.same(is_chain(kind, chain), True)
        for at, part, value in ((0, 2, 0o300), (0, 3, "bob"), (1, 2, 0o771), (1, 4, "x"), (1, 1, "folder")):
            link = chain[at][:part] + (value,) + chain[at][part + 1:]
            self.same(is_chain(kind, chain[:at] + (link,) + chain[at + 1:]), False)
        self.same(is_chain(NO_FOLDERS, (LINK,)), False)

    def test_any_values(self):
        for value in any_values() + [[LINK], (list(LINK),), {LINK: 1}]:
            self.same(is_chain(Kind.every(), value), False)
            self.same(is_chain(Kind.every(), (value,)), False)
            self.same(is_chain(Kind.every(), (LINK, value)), False)
            for part in range(5):
                link = list(("a", *LINK[1:]))
                link[part] = value
                wanted = (
                    same(value, "file") or same(value, "folder") if part == 1
                    else is_integer(value) and 0 <= value <= 511 if part == 2 else is_name(value)
                )
                self.same(is_chain(Kind.every(), (LINK, tuple(link))), wanted)
        self.same(is_chain(chain=(LINK,), kind=None), True)


class Compared(Case):
    def test_papers_of_both_sorts(self):
        chance = random.Random(133)
        seen = {}
        for _ in range(70):
            users, lines = chance.choice(USERS), joints.random_kind(chance)
            one, other = drawn_rows(chance, users, 2)
            mask, below = chance.choice([0o777, 0o777, 0o700, 0o055]), chance.random() < 0.5
            call, looker = (at_most, shows_at_most) if below else (alike, shows_alike)
            kind, rows = builds.kind_of(lines), (builds.row_of(one), builds.row_of(other))
            verdict = call(*rows, kind, mask)
            self.same(looker(*rows, verdict.paper, kind, Mode(mask)), True)
            for told in papers(chance, [one, other], verdict.paper):
                wanted = compared(lines, one, other, told, mask, below)
                self.same(looker(*rows, told, kind, mask), wanted)
                self.same(looker(*rows, paper=told, mask=Mode(mask), kind=kind), wanted)
                key = (below, verdict.answer, wanted)
                seen[key] = seen.get(key, 0) + 1
        self.assertEqual(len(seen), 8)
        self.assertGreater(min(seen.values()), 20)

    def test_for_other_rows_and_kinds(self):
        chance = random.Random(134)
        seen = {}
        for _ in range(60):
            users, lines = chance.choice(USERS), joints.random_kind(chance)
            one, other = drawn_rows(chance, users, 2)
            verdict = alike(builds.row_of(one), builds.row_of(other), builds.kind_of(lines))
            told = [(lines, other, one), (joints.random_kind(chance), one, other), (joints.EVERY, one, other)]
            told += [(lines, one, variant(chance, other)), (lines, one[:-1], other)]
            for kind, first, second in told:
                wanted = compared(kind, first, second, verdict.paper, 0o777, False)
                self.same(shows_alike(builds.row_of(first), builds.row_of(second), verdict.paper, builds.kind_of(kind)), wanted)
                key = (verdict.answer, wanted)
                seen[key] = seen.get(key, 0) + 1
        self.assertEqual(len(seen), 4)
        self.assertGreater(min(seen.values()), 10)

    def test_chains_that_are_no_shortest_ones(self):
        chain = alike(MEND, MEND * 2).chain
        for many in (1, 10, 58):
            longer = (("", "folder", 0o777, "zed", "g"),) + (("b", "folder", 0o555, "ann", "g"),) * (many - 1) + (("b", *chain[0][1:]),) + chain[1:]
            self.same([len(longer), shows_alike(MEND, MEND * 2, ("no", longer))], [many + 2, True])
        longer = (("", "folder", 0o777, "zed", "g"),) + (("b", "folder", 0o555, "ann", "g"),) * 58 + (("b", *chain[0][1:]),) + chain[1:]
        self.same([len(longer), shows_alike(MEND, MEND * 2, ("no", longer))], [61, False])
        # The rows part further up, but not at the last entry.
        self.same(shows_alike(MEND, MEND * 2, ("no", chain + (("a", "folder", 0, "bob", "g"),))), False)

    def test_masks(self):
        found = alike(MEND, MEND * 2)
        for mask in range(512):
            self.same(shows_alike(MEND, MEND * 2, found.paper, mask=mask), bool((found.chain[1][2] ^ (found.chain[1][2] | 0o500)) & mask))
        held = alike(MEND, MEND * 2, mask=0o077).paper
        self.same([shows_alike(MEND, MEND * 2, held, mask=Mode(mask)) for mask in (0o077, 0o277, 0o100, 0o400, 0o777, 0)],
                  [True, True, False, False, False, True])
        self.same([shows_at_most(MEND, MEND * 2, held), shows_at_most(MEND * 2, MEND, (held[0], ()))], [True, False])

    def test_what_is_no_mode(self):
        for value in any_values() + [512, -1, True]:
            if not (isinstance(value, Mode) or is_integer(value) and 0 <= value <= 511):
                for looker in (shows_alike, shows_at_most):
                    self.fails(BadMode, ("number",), looker, MEND, MEND, None, None, value)
                    self.fails(BadMode, ("number",), looker, MEND, MEND, ("yes", ()), NO_FOLDERS, value)
                for looker in (shows_needless, shows_exchanged):
                    self.fails(BadMode, ("number",), looker, MEND * 2, 0, None, None, value)
                    self.fails(NoCommand, (2,), looker, MEND * 2, 2, None, None, value)

    def test_without_a_kind(self):
        for paper in (alike(MEND, MEND * 2).paper, alike(MEND, MEND).paper, ("yes", ())):
            for looker in (shows_alike, shows_at_most):
                self.same(looker(MEND, MEND * 2, paper), looker(MEND, MEND * 2, paper, Kind.every(), 0o777))
        self.same(shows_alike(OPENED, SHUT, ("yes", ()), NO_FOLDERS), True)
        self.same(shows_alike(OPENED, SHUT, ("yes", (TOP[:1] * 2,)), NO_FOLDERS), False)
        self.same(shows_alike(OPENED, SHUT, ("yes", (TOP[:1] * 2,)), Kind(Line("file", ["bob"]))), True)

    def test_any_values(self):
        listed = alike(OPENED, OPENED).listed
        for value in any_values() + [("yes",), ("yes", listed, ()), ["yes", listed], ("Yes", listed), (True, listed), {"yes": listed}]:
            for looker in (
                lambda paper: shows_alike(OPENED, OPENED, paper), lambda paper: shows_at_most(OPENED, OPENED, paper),
                lambda paper: shows_needless(OPENED * 2, 0, paper), lambda paper: shows_exchanged(OPENED * 2, 0, paper),
                lambda paper: shows_never_lost(OPENED, paper), lambda paper: shows_ends_in(OPENED, Kind.every(), paper),
                lambda paper: shows_led_back(Row(), Row(), OPENED[0], paper),
            ):
                for told in (value, ("yes", value), ("no", value), (value, listed), (value, ()), ("yes", (value,)), ("no", (LINK, value))):
                    self.same(looker(told), False)
            for verdict, looker in (
                (alike(MEND, MEND * 2), lambda paper: shows_alike(MEND, MEND * 2, paper)),
                (never_lost(SHUT), lambda paper: shows_never_lost(SHUT, paper)),
                (ends_in(SHUT, OWN), lambda paper: shows_ends_in(SHUT, OWN, paper)),
                (leads_back(SHUT, Row(), MEND[0]), lambda paper: shows_led_back(SHUT, Row(), MEND[0], paper)),
            ):
                self.same([looker((value, verdict.chain)), looker(("No", verdict.chain)), looker(("no", verdict.chain))], [False, False, True])
        self.same(shows_alike(OPENED, OPENED, ("yes", listed)), True)


class Within(Case):
    def test_needless_and_exchanged(self):
        chance = random.Random(135)
        seen = {}
        for _ in range(30):
            users, lines = chance.choice(USERS), joints.random_kind(chance)
            row = drawn_row(chance, users, 2)
            row = row + [chance.choice(row) if row else walker.random_command(chance, users), walker.random_command(chance, users)]
            made, kind, mask, at = builds.row_of(row), builds.kind_of(lines), chance.choice([0o777, 0o077]), chance.randrange(len(row) - 1)
            turned = row[:at] + [row[at + 1], row[at]] + row[at + 2:]
            for call, looker, other in (
                (needless, shows_needless, row[:at] + row[at + 1:]), (exchanged, shows_exchanged, turned),
            ):
                verdict = call(made, at, kind, mask)
                self.same(looker(made, at, verdict.paper, kind, mask), True)
                for told in papers(chance, [row, other], verdict.paper)[:9]:
                    wanted = compared(lines, row, other, told, mask, False)
                    self.same(looker(made, at, told, kind, mask), wanted)
                    self.same(looker(row=made, index=at, mask=Mode(mask), paper=told, kind=kind), wanted)
                    seen[call, wanted] = seen.get((call, wanted), 0) + 1
        self.assertEqual(len(seen), 4)

    def test_no_command_first_of_all(self):
        row = OPENED * 3
        for value in any_values() + [-1, 2, 3]:
            if not (is_integer(value) and 0 <= value < 3):
                self.fails(NoCommand, (value,), shows_needless, row, value, None)
                self.fails(NoCommand, (value,), shows_needless, row, value, ("yes", ()), None, 512)
            if not (is_integer(value) and 0 <= value < 2):
                self.fails(NoCommand, (value,), shows_exchanged, row, value, None)
                self.fails(NoCommand, (value,), shows_exchanged, row, value, ("yes", ()), None, 512)
        self.same([shows_needless(row, 2, needless(row, 2).paper), shows_exchanged(row, 1, exchanged(row, 1).paper)], [True, True])
        self.fails(NoCommand, (0,), shows_needless, Row(), 0, None)
        self.fails(NoCommand, (0,), shows_exchanged, OPENED, 0, None)


class Lost(Case):
    def test_papers_of_both_sorts(self):
        chance = random.Random(136)
        seen = {}
        for _ in range(90):
            users, lines = chance.choice(USERS), joints.random_kind(chance)
            if chance.random() < 0.5:
                lines = [("folder", None, None, chance.choice([0o555, 0o111]), 0), ("file", None, None, 0, 0)]
            row = drawn_row(chance, users, 2)
            kind, made = builds.kind_of(lines), builds.row_of(row)
            verdict = never_lost(made, kind)
            self.same(shows_never_lost(made, verdict.paper, kind), True)
            for told in papers(chance, [row], verdict.paper):
                wanted = lost(lines, row, told)
                self.same(shows_never_lost(made, told, kind), wanted)
                key = (verdict.answer, wanted)
                seen[key] = seen.get(key, 0) + 1
            other = drawn_row(chance, users, 2)
            self.same(shows_never_lost(builds.row_of(other), verdict.paper, kind), lost(lines, other, verdict.paper))
        self.assertEqual(len(seen), 4)
        self.assertGreater(min(seen.values()), 60)

    def test_at_the_top_and_for_chains_of_one_entry(self):
        self.same(shows_never_lost(SHUT, ("yes", (((-1,),), ((0,),)))), False)
        self.same(shows_never_lost(SHUT, ("yes", (((-1,),),)), OWN), False)
        self.same([shows_never_lost(SHUT, ("no", (("", "folder", 0o755, "ann", "g"),))), shows_never_lost(SHUT, ("no", (
            ("", "folder", 0o755, "ann", "g"), ("a", "file", 0, "ann", "g"),
        )))], [False, True])
        self.same(shows_never_lost(kind=NO_FOLDERS, paper=("yes", ()), row=SHUT), True)
        self.same(shows_never_lost(SHUT, never_lost(SHUT).paper), shows_never_lost(SHUT, never_lost(SHUT).paper, Kind.every()))

    def test_the_name_of_the_last_entry(self):
        row = Row(Command(ANN, Change.read("u+r"), start="b"))
        chain = (("", "folder", 0, "ann", "g"), ("b", "file", 0, "x", "g"))
        self.same(shows_never_lost(row, ("no", chain)), True)
        self.same(shows_never_lost(row, ("no", (chain[0], ("a", *chain[1][1:])))), False)
        self.same(shows_never_lost(row, ("no", (("", "folder", 0o100, "ann", "g"), chain[1]))), False)
        # What does not come to the folder is not lost below it.
        self.same(shows_never_lost(row, ("no", (chain[0], ("b", "folder", 0, "ann", "g"), ("a", "file", 0, "x", "g")))), False)

    def test_joint_stands_that_do_not_come_about(self):
        own = Kind(Line("folder", ["ann"], must=0o500), Line("file"))
        late = Row(Command(ANN, Change.read("u-x"), "last"), Command(ANN, Change.read("u+x")))
        right = never_lost(late, own)
        self.same(right.listed, (((0, 0),),))
        self.same(shows_never_lost(late, ("yes", (((0, 0),), ((-1, 0),))), own), True)
        twice = Row(Command(ANN, Change.read("u+x")), Command(ANN, Change.read("u+r,u-x"), "last"))
        self.same(shows_never_lost(twice, never_lost(twice, own).paper, own), True)
        closed_one = Kind(Line("folder", ["ann"], must=0o400), Line("file"))
        held = never_lost(twice, closed_one)
        self.same([held.listed, shows_never_lost(twice, held.paper, closed_one)], [(((0, 0),),), True])
        # Without the first command the second one would be lost; that it does not come alone is not looked at.
        self.same(shows_never_lost(twice, ("yes", held.listed + (((-1, 0),), ((-1, -1),))), closed_one), False)


class Ended(Case):
    def test_papers_of_both_sorts(self):
        chance = random.Random(137)
        seen = {}
        for k in range(50):
            users, lines = chance.choice(USERS), joints.random_kind(chance)
            row, goal = drawn_row(chance, users, 2), random_goal(chance, users)
            if k % 3:
                goal = lines[:3] + goal[:1]
            kind, made, aim = builds.kind_of(lines), builds.row_of(row), builds.kind_of(goal)
            verdict = ends_in(made, aim, kind)
            self.same(shows_ends_in(made, aim, verdict.paper, kind), True)
            for told in papers(chance, [row], verdict.paper):
                wanted = ended_in(lines, row, goal, told)
                self.same(shows_ends_in(made, aim, told, kind), wanted)
                key = (verdict.answer, wanted)
                seen[key] = seen.get(key, 0) + 1
            other = random_goal(chance, users)
            self.same(shows_ends_in(made, builds.kind_of(other), verdict.paper, kind), ended_in(lines, row, other, verdict.paper))
        self.assertEqual(len(seen), 4)
        self.assertGreater(min(seen.values()), 25)

    def test_by_hand(self):
        goal = Kind(Line("folder", never=0o002), Line("file", never=0o002))
        row = Row(Command(Chief("cy"), Change.read("o-w"), kinds="files"))
        self.same(shows_ends_in(row, goal, ("no", (("", "folder", 0o002, "dora", "guests"),))), True)
        self.same(shows_ends_in(row, goal, ("no", (("", "folder", 0o770, "dora", "guests"),))), False)
        chain = (("", "folder", 0o002, "dora", "guests"), ("a", "file", 0o002, "x", "y"))
        self.same([shows_ends_in(row, goal, ("no", chain)), shows_ends_in(Row(), goal, ("no", chain))], [False, True])
        # At the top's only folders are looked at, below it files, too.
        folders = Kind(Line("folder"))
        self.same(shows_ends_in(Row(), folders, ("yes", (((),),))), False)
        self.same(shows_ends_in(Row(), folders, ("yes", (((),),)), folders), True)
        self.same(shows_ends_in(Row(), Kind(Line("file")), ("yes", ()), NO_FOLDERS), True)
        self.same(shows_ends_in(kind=None, paper=("yes", (((),),)), goal=Kind.every(), row=Row()), True)

    def test_joint_stands_that_do_not_come_about(self):
        own = Kind(Line("folder", ["ann"], must=0o500), Line("file", ["ann"]))
        goal = Kind(Line("folder"), Line("file", never=0o002))
        row = Row(Command(ANN, Change.read("o-w")))
        held = ends_in(row, goal, own)
        self.same([held.listed, shows_ends_in(row, goal, held.paper, own)], [(((0,),),), True])
        self.same(shows_ends_in(row, goal, ("yes", (((0,),), ((-1,),))), own), False)
        self.same(shows_ends_in(row, Kind.every(), ("yes", (((0,),), ((-1,),))), own), True)


class LedBack(Case):
    def test_papers_of_both_sorts(self):
        chance = random.Random(138)
        seen = {}
        for k in range(80):
            users, lines = chance.choice(USERS), joints.random_kind(chance)
            row, more, command = drawn_back(chance, users)
            if k % 2:
                row, more = row[:1], more[:1]
            kind, one, two, last = builds.kind_of(lines), builds.row_of(row), builds.row_of(more), builds.command_of(command)
            verdict = leads_back(one, two, last, kind, 2000)
            self.same(shows_led_back(one, two, last, verdict.paper, kind), True)
            rows = [[command], row + more + [command]]
            for told in papers(chance, rows, verdict.paper):
                wanted = led(lines, row, more, command, told)
                self.same(shows_led_back(one, two, last, told, kind), wanted)
                key = (verdict.answer, wanted)
                seen[key] = seen.get(key, 0) + 1
        self.assertEqual(len(seen), 4)
        self.assertGreater(min(seen.values()), 40)

    def test_by_hand(self):
        walk = Command(ANN, Change.read("o-w"))
        paper = leads_back(SHUT, OPENED, walk, OWN).paper
        self.same(paper, ("yes", (((-1,), (-1, 0, 0)), ((0,), (-1, 0, 0)))))
        self.same(shows_led_back(SHUT, OPENED, walk, paper, OWN), True)
        self.same(shows_led_back(SHUT, OPENED, walk, ("yes", paper[1] + (((-1,), (-1, -1, -1)),)), OWN), True)
        self.same(shows_led_back(SHUT, OPENED, walk, ("yes", paper[1] + (((0,), (0, 0, -1)), ((-1,), (-1, -1, -1)))), OWN), False)
        self.same(shows_led_back(SHUT, OPENED, walk, paper), False)
        chain = (("", "folder", 0o700, "ann", "g"), ("a", "file", 0, "ann", "g"))
        self.same([shows_led_back(SHUT, Row(), walk, ("no", chain)), shows_led_back(SHUT, OPENED, walk, ("no", chain))], [True, False])
        self.same(shows_led_back(SHUT, Row(), walk, ("no", chain[:1])), False)
        self.same(shows_led_back(SHUT, Row(), walk, ("no", (("", "folder", 0, "ann", "g"), chain[1]))), False)
        self.same(shows_led_back(kind=NO_FOLDERS, paper=("yes", ()), command=walk, more=Row(), row=SHUT), True)

    def test_rows_of_ten_and_eleven_commands(self):
        walk = Command(ANN, Change.read("o-w"))
        for row, more in ((9, 0), (5, 4), (0, 9)):
            paper = leads_back(SHUT * row, OPENED * more, walk, OWN).paper
            self.same(shows_led_back(SHUT * row, OPENED * more, walk, paper, OWN), True)
        for row, more in ((10, 0), (5, 5), (0, 10), (10, 10)):
            for paper in (None, ("yes", ()), ("no", ())):
                self.fails(TooMany, (10,), shows_led_back, SHUT * row, OPENED * more, walk, paper)
                self.fails(TooMany, (10,), shows_led_back, SHUT * row, OPENED * more, walk, paper, NO_FOLDERS)


class Long(Case):
    def test_papers_of_very_many_joint_stands(self):
        lines, row, many = wide_row()
        made, kind = builds.row_of(row), builds.kind_of(lines)
        began = time.monotonic()
        listed = ends_in(made, Kind.every(), kind, many).paper
        self.same([shows_ends_in(made, Kind.every(), listed, kind), shows_ends_in(made, Kind(Line("folder")), listed, kind)], [True, False])
        held = alike(made, made, kind, most=2000).paper
        self.same([shows_alike(made, made, held, kind), shows_at_most(made, made, held, kind)], [True, True])
        self.same(shows_never_lost(made, listed, kind), False)
        self.assertLess(time.monotonic() - began, 60)


if __name__ == "__main__":
    unittest.main()
