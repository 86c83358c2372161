"""Points 2 and 19 and the heading modesdown/texts.py."""

import random
import unittest

from modesdown.changes import Change
from modesdown.commands import Command, Row
from modesdown.errors import BadText, TooMany
from modesdown.kinds import Kind, Line
from modesdown.lasting import never_lost
from modesdown.stands import Stands
from modesdown.texts import read_kind, read_row, read_tree, report, write_kind, write_row, write_tree
from modesdown.trees import File, Folder, Tree
from modesdown.users import Chief, User
from tests import builds, forms, joints, walker
from tests.case import Case
from tests.test_lasting import drawn_row
from tests.test_stands import ANN, NO_FOLDERS, USERS, wide_row

WORDS = [
    "", ".", "a", "a/b", "a/b/c", "a/b/c/d", "b", "ann", "bob", "staff", "Ann", "abcdefgh", "abcdefghi", "x1", "user", "chief", "do", "none",
    "first", "last", "all", "folders", "files", "file", "folder", "u+r", "a=rX", "u=g,g=o,o=u", "u+r,", "u", "gu+r", "*", "ann,bob", "bob,ann",
    "ann,ann", "ann,", "a,b,c", "000", "777", "070", "78", "0777", "008", "drwxr-xr-x", "-rw-r-----", "drwxr-xr-", "drwxr-xr-xx", "lrwxrwxrwx",
    "drwxr-xrx-", "/", "a/", "/a", "a//b", ";", "-", "d", "ops", "cy", ",".join(["u+r"] * 8), ",".join(["u+r"] * 9), "ugo+r", "~",
]
TREE = "drwxr-xr-x ann staff .\nd--------- bob staff a\n-rw-r--r-- ann ops a/b\n-rwxrwxrwx ann ops c"


def mutated(chance, text):
    """A text with a word more, less or otherwise, or with a line more, less, twice or elsewhere."""
    lines = [line.split(" ") for line in text.split("\n")]
    for _ in range(chance.choice([1, 1, 1, 2])):
        at = chance.randrange(len(lines))
        turn, k = chance.randrange(9), chance.randrange(len(lines[at])) if lines[at] else 0
        if turn < 3 and lines[at]:
            lines[at][k] = chance.choice(WORDS)
        elif turn == 3:
            lines[at].insert(k, chance.choice(WORDS))
        elif turn == 4 and lines[at]:
            lines[at].pop(k)
        elif turn == 5:
            lines[at].append(chance.choice(WORDS))
        elif turn == 6:
            lines.insert(chance.randrange(len(lines) + 1), list(lines[at]))
        elif turn == 7 and len(lines) > 1:
            lines.pop(at)
        else:
            chance.shuffle(lines)
    return "\n".join(" ".join(line) for line in lines)


class Checked(Case):
    def check(self, reader, writer, wrong, text):
        """The text is read, or refused at the first word that cannot stand; what was read is written and read again."""
        place = wrong(text)
        if place is not None:
            self.fails(BadText, place, reader, text)
            return None
        made = reader(text)
        again = reader(writer(made))
        self.same([made == again, writer(again)], [True, writer(made)])
        return made


class Trees(Checked):
    def test_written_read_and_written_again(self):
        chance = random.Random(141)
        for _ in range(150):
            tree = walker.random_tree(chance, 20)
            made = builds.tree_of(tree)
            text = write_tree(made)
            self.same(text, "\n".join(
                f"{'d' if tree[path][0] == 'folder' else '-'}{self.signs(tree[path][1])} {tree[path][2]} {tree[path][3]} {path or '.'}"
                for path in walker.in_order(tree)
            ))
            got = read_tree(text)
            self.assertIs(type(got), Tree)
            self.same([got == made, write_tree(got)], [True, text])

    def signs(self, number):
        return "".join(sign if bit == "1" else "-" for sign, bit in zip("rwxrwxrwx", f"{number:09b}"))

    def test_the_top_alone(self):
        self.same(write_tree(Tree(Folder(0o750, "ann", "staff"))), "drwxr-x--- ann staff .")
        self.same(read_tree("drwxr-x--- ann staff ."), Tree(Folder(0o750, "ann", "staff")))

    def test_lines_in_another_order(self):
        chance = random.Random(142)
        many = 0
        for _ in range(100):
            text = write_tree(builds.tree_of(walker.random_tree(chance, 8)))
            lines = text.split("\n")
            below = lines[1:]
            chance.shuffle(below)
            other = "\n".join(lines[:1] + below)
            made = self.check(read_tree, write_tree, forms.in_tree, other)
            if made is not None:
                self.same([made == read_tree(text), write_tree(made)], [True, text])
                many += other != text
        self.assertGreater(many, 20)

    def test_texts_with_a_part_otherwise(self):
        chance = random.Random(143)
        seen = {}
        for _ in range(1500):
            text = mutated(chance, TREE if chance.random() < 0.5 else write_tree(builds.tree_of(walker.random_tree(chance, 6))))
            self.check(read_tree, write_tree, forms.in_tree, text)
            place = forms.in_tree(text)
            seen[place and place[1]] = seen.get(place and place[1], 0) + 1
        self.assertLessEqual({None, 0, 1, 2, 3, 4}, set(seen))
        self.assertGreater(min(seen[k] for k in (None, 0, 1, 2, 3, 4)), 30)

    def test_each_place(self):
        for text, place in (
            ("", (0, 0)), ("\n" + TREE, (0, 0)), (TREE + "\n", (4, 0)), (TREE + " ", (3, 4)), (" " + TREE, (0, 0)),
            (TREE.replace("bob", ""), (1, 1)), (TREE.replace("bob ", ""), (1, 3)), (TREE.replace(" a/b", ""), (2, 3)),
            (TREE.replace(" .", " a"), (0, 3)), (TREE.replace(" .", " "), (0, 3)), (TREE.replace(" c", " ."), (3, 3)),
            (TREE.replace(" c", " a"), (3, 3)), (TREE.replace(" c", " a/b/c"), (3, 3)), (TREE.replace(" c", " c/d"), (3, 3)),
            (TREE.replace(" c", " c d"), (3, 4)), (TREE.replace(" c", " "), (3, 3)), (TREE.replace("drwx", "-rwx"), (0, 0)),
            (TREE.replace("-rw-r--r--", "rw-r--r--"), (2, 0)), (TREE.replace("-rw-r--r--", "-rw-r--r-"), (2, 0)),
            (TREE.replace("-rw-r--r--", "-rw-r--rx-"), (2, 0)), (TREE.replace("-rw-r--r--", "drw-r--r--"), None),
            (TREE.replace("staff a\n", "Staff a\n"), (1, 2)), ("d--------- ann staff", (0, 3)), ("d---------", (0, 1)), ("none", (0, 0)),
        ):
            self.assertEqual(forms.in_tree(text), place)
            self.check(read_tree, write_tree, forms.in_tree, text)

    def test_the_first_word_of_the_first_line_is_told(self):
        self.fails(BadText, (1, 0), read_tree, "d--------- ann staff .\nd ANN STAFF . .\nd")
        self.fails(BadText, (1, 1), read_tree, "d--------- ann staff .\nd--------- ANN STAFF . .\nd")
        self.fails(BadText, (1, 3), read_tree, "d--------- ann staff .\nd--------- ann staff . .\nd")

    def test_the_sixty_first_line(self):
        names = ["".join((one, two)) for one in "abcdefgh" for two in "abcdefgh"]
        lines = ["drwxr-xr-x ann staff ."] + [f"-rw-r--r-- ann staff {name}" for name in names]
        self.same(read_tree("\n".join(lines[:60])).size(), 60)
        self.fails(BadText, (60, 0), read_tree, "\n".join(lines[:61]))
        self.fails(BadText, (60, 0), read_tree, "\n".join(lines[:60] + [""]))
        self.fails(BadText, (60, 0), read_tree, "\n".join(lines))
        self.fails(BadText, (59, 4), read_tree, "\n".join(lines[:59] + [lines[59] + " a", lines[60]]))


def row_text(chance, users):
    """A text of some users and commands by them, not in the order in which it would be written."""
    lines = [" ".join(["chief" if chief else "user", name, *groups]) for chief, name, groups in users]
    chance.shuffle(lines)
    for _ in range(chance.randint(1, 4)):
        user, change, order, kinds, start = walker.random_command(chance, users)
        lines.append(f"do {user[1]} {order} {kinds} {start or '.'} {change}")
    return "\n".join(lines)


class Rows(Checked):
    def test_written_read_and_written_again(self):
        chance = random.Random(144)
        for _ in range(200):
            users = chance.choice(USERS)
            row = [walker.random_command(chance, users) for _ in range(chance.randint(1, 10))]
            made = builds.row_of(row)
            text = write_row(made)
            names = sorted({command[0][1] for command in row})
            told = [next(command[0] for command in row if command[0][1] == name) for name in names]
            wanted = [" ".join(["chief" if chief else "user", name, *groups]) for chief, name, groups in told]
            wanted += [
                f"do {user[1]} {order} {kinds} {start or '.'} {Change.read(change)}" for user, change, order, kinds, start in row
            ]
            self.same(text, "\n".join(wanted))
            got = read_row(text)
            self.assertIs(type(got), Row)
            self.same([got == made, write_row(got)], [True, text])

    def test_without_commands(self):
        self.same([write_row(Row()), read_row("none"), len(read_row("none"))], ["none", Row(), 0])
        self.same(write_row(read_row("none")), "none")

    def test_what_is_read_does_the_same(self):
        chance = random.Random(145)
        for _ in range(80):
            users, plain = chance.choice(USERS), walker.open_tree(chance)
            row = builds.row_of([walker.random_command(chance, users) for _ in range(chance.randint(1, 4))])
            tree = read_tree(write_tree(builds.tree_of(plain)))
            again, other = read_row(write_row(row)), builds.tree_of(plain)
            self.same(again(tree), row(other))
            self.same(tree, other)

    def test_groups_as_in_the_first_command(self):
        one, two = User("ann", "b", "a"), User("ann", "a", "b")
        row = Row(Command(one, Change.read("u+r")), Command(two, Change.read("u+r")), Command(Chief("aa"), Change.read("u+r")))
        self.same(write_row(row).split("\n")[:2], ["chief aa", "user ann b a"])
        self.same(write_row(Row(row[1], row[0])).split("\n")[:2], ["user ann a b", "do ann first all . u+r"])
        self.same(read_row(write_row(row)), row)

    def test_users_in_another_order_and_without_a_command(self):
        text = "user zed ops\nchief bob\nuser ann staff ops\ndo zed last files a/b/c a=rX\ndo ann first all . u=g"
        row = read_row(text)
        self.same([row[0], len(row)], [Command(User("zed", "ops"), Change.read("a=rX"), "last", "files", "a/b/c"), 2])
        self.same(write_row(row), "user ann staff ops\nuser zed ops\ndo zed last files a/b/c a=rX\ndo ann first all . u=g")
        self.same(write_row(read_row("user ann\ndo ann first all . ugo+r,gu=" .replace("gu=", "ug="))), "user ann\ndo ann first all . a+r,ug=")

    def test_texts_with_a_part_otherwise(self):
        chance = random.Random(146)
        seen = {}
        for _ in range(2500):
            text = mutated(chance, row_text(chance, chance.choice(USERS)))
            self.check(read_row, write_row, forms.in_row, text)
            place = forms.in_row(text)
            seen[place and place[1]] = seen.get(place and place[1], 0) + 1
        self.assertLessEqual({None, 0, 1, 2, 3, 4, 5, 6}, set(seen))
        self.assertGreater(min(seen[k] for k in (None, 0, 1, 2, 3, 4, 5, 6)), 20)

    def test_each_place(self):
        ann, do = "user ann staff", "do ann first all . u+r"
        for lines, place in (
            ([""], (0, 0)), (["none", ""], (1, 0)), (["none", "none"], (1, 0)), (["none", ann], (1, 0)), ([ann, "none"], (1, 0)),
            (["none x", ann], (0, 1)), (["none "], (0, 1)), ([ann], (1, 0)), ([ann, "chief bob"], (2, 0)), (["user"], (0, 1)), ([do], (0, 1)),
            ([ann, do, "user bob"], (2, 0)), ([ann, do, "user"], (2, 0)), ([ann, ann, do], (1, 1)), ([ann, "chief ann", do], (1, 1)),
            (["user ann a b c", do], (0, 4)), (["user ann a a b", do], (0, 3)), (["user ann a b a", do], (0, 4)), (["user ann  a", do], (0, 2)),
            (["user ann a ", do], (0, 3)), (["User ann", do], (0, 0)), ([ann, "chief bob", "user cy", "user dora", do], (3, 0)),
            ([ann, "chief bob", "user cy", "user ann", do], (3, 0)), ([ann, "chief bob", "user cy", do], None), ([ann, "do"], (1, 1)),
            ([ann, "do bob first all . u+r"], (1, 1)), ([ann, "do ann"], (1, 2)), ([ann, "do ann First all . u+r"], (1, 2)),
            ([ann, "do ann first file . u+r"], (1, 3)), ([ann, "do ann first"], (1, 3)), ([ann, "do ann first all  u+r"], (1, 4)),
            ([ann, "do ann first all a/b/c/d u+r"], (1, 4)), ([ann, "do ann first all a/b/c u+r"], None), ([ann, "do ann first all /a u+r"], (1, 4)),
            ([ann, "do ann first all . "], (1, 5)), ([ann, "do ann first all ."], (1, 5)), ([ann, "do ann first all . u+r,"], (1, 5)),
            ([ann, do + " "], (1, 6)), ([ann, do + " x"], (1, 6)), ([ann, do, ""], (2, 0)), ([ann, " " + do], (1, 0)),
            ([ann, "do ann first all . " + ",".join(["u+r"] * 9)], (1, 5)), ([ann, "do ann first all . " + ",".join(["u+r"] * 8)], None),
            ([ann] + [do] * 10, None), ([ann] + [do] * 11, (11, 0)), ([ann] + [do] * 10 + ["x"], (11, 0)), ([ann] + [do] * 10 + [ann], (11, 0)),
            ([ann] + [do] * 9 + ["do ann", do], (10, 2)), ([ann, do, "none"], (2, 0)),
        ):
            text = "\n".join(lines)
            self.assertEqual(forms.in_row(text), place, lines)
            self.check(read_row, write_row, forms.in_row, text)


class Kinds(Checked):
    def test_written_read_and_written_again(self):
        chance = random.Random(147)
        for _ in range(200):
            lines = joints.random_kind(chance)
            made = builds.kind_of(lines)
            text = write_kind(made)
            self.same(text, "\n".join(
                f"{form} {','.join(sorted(owners)) if owners else '*'} {','.join(sorted(groups)) if groups else '*'} {must:03o} {never:03o}"
                for form, owners, groups, must, never in lines
            ))
            got = read_kind(text)
            self.assertIs(type(got), Kind)
            self.same([got == made, write_kind(got)], [True, text])

    def test_by_hand(self):
        self.same(write_kind(Kind(Line("folder", ["bob", "ann"], None, 0o700, 2))), "folder ann,bob * 700 002")
        self.same(read_kind("folder ann,bob * 700 002"), Kind(Line("folder", ["ann", "bob"], None, 0o700, 2)))
        self.same(write_kind(Kind.every()), "file * * 000 000\nfolder * * 000 000")
        self.same(read_kind("file * * 000 000\nfolder * * 000 000"), Kind.every())

    def test_texts_with_a_part_otherwise(self):
        chance = random.Random(148)
        seen = {}
        for _ in range(1500):
            text = mutated(chance, write_kind(builds.kind_of(joints.random_kind(chance))))
            self.check(read_kind, write_kind, forms.in_kind, text)
            place = forms.in_kind(text)
            seen[place and place[1]] = seen.get(place and place[1], 0) + 1
        self.assertLessEqual({None, 0, 1, 2, 3, 4, 5}, set(seen))
        self.assertGreater(min(seen[k] for k in (None, 0, 1, 2, 3, 4, 5)), 30)

    def test_each_place(self):
        line = "folder * ops 700 002"
        for lines, place in (
            ([""], (0, 0)), (["Folder * * 000 000"], (0, 0)), (["folder"], (0, 1)), (["folder  * 000 000"], (0, 1)),
            (["folder bob,ann * 000 000"], (0, 1)), (["folder ann,ann * 000 000"], (0, 1)), (["folder a,b,c * 000 000"], (0, 1)),
            (["folder *,a * 000 000"], (0, 1)), (["folder * Ops 000 000"], (0, 2)), (["folder * * 00 000"], (0, 3)), (["folder * * 008 000"], (0, 3)),
            (["folder * * 0000 000"], (0, 3)), (["folder * * 000"], (0, 4)), (["folder * * 001 003"], (0, 4)), (["folder * * 001 7"], (0, 4)),
            ([line + " "], (0, 5)), ([line, ""], (1, 0)), ([line] * 4, None), ([line] * 5, (4, 0)), ([line] * 3 + ["folder"], (3, 1)),
            ([line] * 4 + [""], (4, 0)), (["none"], (0, 0)), (["folder * *  000"], (0, 3)), (["folder * * -00 000"], (0, 3)),
        ):
            text = "\n".join(lines)
            self.assertEqual(forms.in_kind(text), place, lines)
            self.check(read_kind, write_kind, forms.in_kind, text)

    def test_what_is_read_lets_the_same(self):
        chance = random.Random(149)
        for _ in range(60):
            kind = builds.kind_of(joints.random_kind(chance))
            again = read_kind(write_kind(kind))
            for _ in range(40):
                entry = (chance.choice(["file", "folder"]), chance.randrange(512), chance.choice(["ann", "bob", "zz"]), chance.choice(["staff", "ops"]))
                self.same(again.lets(*entry), kind.lets(*entry))


class Reports(Case):
    def test_against_stands_and_never_lost(self):
        chance = random.Random(150)
        seen = set()
        for _ in range(80):
            users, lines = chance.choice(USERS), joints.random_kind(chance)
            row = drawn_row(chance, users)
            kind, made = builds.kind_of(lines), builds.row_of(row)
            wanted = []
            for (stand,) in [joint for level in joints.levels(lines, [row]) for joint in level]:
                wanted.append((stand, " ".join(
                    "-" if number == -1 else "in" if number == len(joints.names_of(command)) else str(number)
                    for number, command in zip(stand, row)
                )))
            lost = joints.least_lost(lines, row)
            told = [line for stand, line in sorted(wanted)] + ["never lost" if lost is None else f"lost at {lost}"]
            got = report(made, kind)
            self.assertIs(type(got), list)
            self.same(got, told)
            seen.add(lost)
        self.assertLessEqual({None, 2}, seen)

    def test_by_hand(self):
        deep = Row(Command(Chief("cy"), Change.read("u+r"), start="a/b"), Command(ANN, Change.read("u+r")))
        self.same(report(deep, Kind(Line("folder", must=0o555))), ["- in", "1 in", "in in", "never lost"])
        self.same(report(deep)[-1], "lost at 2")
        self.same([report(Row()), report(Row(), NO_FOLDERS), report(deep, NO_FOLDERS)], [["", "never lost"], ["never lost"], ["never lost"]])
        self.same(report(kind=None, row=deep), report(deep, Kind.every()))
        self.same(len(report(deep)), len(Stands(Kind.every(), deep)) + 1)
        self.same(report(deep)[-1], f"lost at {len(never_lost(deep).chain)}")
        told = report(Row())
        told.clear()
        self.same(report(Row()), ["", "never lost"])

    def test_too_many(self):
        lines, row, many = wide_row()
        self.fails(TooMany, (400,), report, builds.row_of(row), builds.kind_of(lines))


if __name__ == "__main__":
    unittest.main()
