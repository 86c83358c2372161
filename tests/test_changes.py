"""Points 2 and 4, changes, and what modesdown/changes.py tells of them."""

import random
import unittest

from modesdown.changes import Change, Clause, parting
from modesdown.errors import BadClause, BadMode, TooMany
from modesdown.modes import Mode
from tests import oracle
from tests.samples import any_values, described, same

CLAUSES = [Clause.read(text) for text in ("u+r", "g=u", "o-x", "a=rX", "ug+X", "go-u", "a-w", "o=", "u=g")]
FORMS = ("file", "folder")

TEXTS = [
    "u+", "a=", "a+r", "a-r", "a+x", "a+X", "a-x", "a-X", "u=X", "u=x", "u=g", "u=,u+g", "g=u", "a=u", "a-u", "u-o", "ug-x",
    "u=rwX,g=u,o-x", "u=g,g=o,o=u", "u=o,g=u,o=g", "a-x,a+X", "ug-x,u+X", "ug-x,u=o", "ug-x,u=o,u=o",
    "u=x,u-o,go-rwx,g+X", "u=x,u-o,go-rwx,g=u", "a=rwx,u-w,g-w,o-w", "a=rwx,a-w", "a=rx", "a=rX", "a=rxX",
    "uo+X,u=xX,a-o", "o+wX,a-u,u=o", "ug-,u-r,uo-u,g+g,u+g,go=o,o+x,a-w", "ugo-g,g=u,u+x", "ug+wX,uo=o,o+rwxX,go-g,a+",
    "o=u,u=g,g=X", "u+g,g-o,o=u,u-g", "g+u,u=o,o-g", "u=rwx,g=rx,o=",
]


def pool():
    """Texts of changes, the same ones each time."""
    chance = random.Random(417)
    return TEXTS + [oracle.random_change(chance) for _ in range(120)]


class Case(unittest.TestCase):
    def refused(self, at, call, *values, **named):
        with self.assertRaises(BadClause) as held:
            call(*values, **named)
        self.assertIs(type(held.exception), BadClause)
        self.assertTrue(same(held.exception.at, at), (held.exception.at, at))

    def too_many(self, call, *values, **named):
        with self.assertRaises(TooMany) as held:
            call(*values, **named)
        self.assertIs(type(held.exception), TooMany)
        self.assertTrue(same(held.exception.most, 8))


class Made(Case):
    def test_one_to_eight_clauses(self):
        for many in range(1, 9):
            clauses = CLAUSES[:many]
            change = Change(*clauses)
            self.assertIs(type(change), Change)
            self.assertIs(type(change.clauses), tuple)
            self.assertTrue(same(change.clauses, tuple(clauses)))

    def test_most(self):
        self.assertTrue(same(Change.MOST, 8))
        self.assertTrue(same(Change(CLAUSES[0]).MOST, 8))

    def test_none(self):
        self.refused(0, Change)

    def test_nine_and_more(self):
        for many in (9, 10, 20, 100):
            self.too_many(Change, *[CLAUSES[k % 9] for k in range(many)])

    def test_too_many_ahead_of_bad_clause(self):
        for value in any_values():
            self.too_many(Change, *[value] * 9)
            self.too_many(Change, value, *CLAUSES[:8])

    def test_the_first_that_is_no_clause(self):
        for value in any_values():
            if isinstance(value, Clause):
                continue
            for at in range(8):
                self.refused(at, Change, *CLAUSES[:at], value)
                self.refused(at, Change, *CLAUSES[:at], *[value] * (8 - at))
                self.refused(at, Change, *CLAUSES[:at], value, *CLAUSES[at:7])
        self.refused(0, Change, "u+r")
        self.refused(1, Change, CLAUSES[0], Change(CLAUSES[1]))
        self.refused(0, Change, [CLAUSES[0]])

    def test_properties_are_only_read(self):
        change = Change(*CLAUSES[:3])
        for name in ("clauses", "tables"):
            with self.assertRaises(AttributeError):
                setattr(change, name, ())
        self.assertTrue(same(change.clauses, tuple(CLAUSES[:3])))

    def test_equal_if_the_clauses_are(self):
        texts = sorted(set(TEXTS))
        for one in texts:
            for other in texts:
                self.assertIs(Change.read(one) == Change.read(other), one == other)
                self.assertIs(Change.read(one) != Change.read(other), one != other)
        self.assertIs(Change.read("ugo=r,u+x") == Change.read("a=r,u+x"), True)
        # Clauses and their order count, not what the changes do.
        self.assertIs(Change.read("u+r,u+w") == Change.read("u+w,u+r"), False)
        self.assertIs(Change.read("u+r,u+r") == Change.read("u+r"), False)
        self.assertIs(Change.read("u+xX") == Change.read("u+x"), False)

    def test_equal_to_nothing_of_another_kind(self):
        one = Change(CLAUSES[0])
        for value in any_values() + [CLAUSES[0], (CLAUSES[0],), [CLAUSES[0]], "u+r"]:
            if not isinstance(value, Change):
                self.assertIs(one == value, False)
                self.assertIs(value == one, False)


class Texts(Case):
    def test_written_and_read(self):
        for text in pool():
            change = Change.read(text)
            self.assertIs(type(change), Change)
            parts = text.split(",")
            self.assertTrue(same(change.clauses, tuple(Clause.read(part) for part in parts)))
            written = ",".join("a" + part[3:] if part.startswith("ugo") else part for part in parts)
            self.assertTrue(same(str(change), written))
            self.assertTrue(same(Change.read(text=str(change)), change))
        self.assertTrue(same(Change(CLAUSES[0]).read("g=u,o-x"), Change(CLAUSES[1], CLAUSES[2])))

    def test_what_is_no_string(self):
        for value in any_values():
            if not isinstance(value, str):
                self.refused(0, Change.read, value)
                self.refused(0, Change.read, text=value)
        self.refused(0, Change.read, ["u+r"] * 9)
        self.refused(0, Change.read, Change.read("u+r"))
        self.refused(0, Change.read, b"u+r")

    def test_eight_parts_and_more(self):
        self.assertEqual(len(Change.read(",".join(["u+r"] * 8)).clauses), 8)
        for many in (9, 10, 60):
            self.too_many(Change.read, ",".join(["u+r"] * many))
            self.too_many(Change.read, ",".join(["?"] * many))
        self.too_many(Change.read, "," * 8)
        self.too_many(Change.read, ",u+r" * 8)
        self.refused(0, Change.read, "," * 7)

    def test_the_first_part_that_is_no_clause(self):
        for wrong in ("", "u", "+r", "gu+r", "u+wr", "u+r ", " u+r", "u+-r", "u+r\n", "ugo", "a=q", "U+r", "=", "u;g"):
            for at in range(8):
                ahead = ["u=rX"] * at
                self.refused(at, Change.read, ",".join(ahead + [wrong]))
                self.refused(at, Change.read, ",".join(ahead + [wrong] * (8 - at)))
                self.refused(at, Change.read, ",".join(ahead + [wrong] + ["g=u"] * (7 - at)))
        self.refused(0, Change.read, "")
        self.refused(1, Change.read, "u+r,")
        self.refused(1, Change.read, "u+r, g+w")


class Done(Case):
    def test_all_modes(self):
        for text in pool():
            change = Change.read(text)
            for form in FORMS:
                got = [change(number, form) for number in range(512)]
                self.assertTrue(all(type(mode) is Mode for mode in got))
                self.assertEqual([mode.number for mode in got], oracle.image(text, form), (text, form))

    def test_each_clause_sees_the_mode_as_the_one_before_left_it(self):
        self.assertEqual(Change.read("a-x,a+X")(0o111, "file"), Mode(0))
        self.assertEqual(Change.read("a+X,a-x")(0o100, "file"), Mode(0))
        self.assertEqual(Change.read("u+x,a+X")(0, "file"), Mode(0o111))
        self.assertEqual(Change.read("u=g,g=u")(0o750, "file"), Mode(0o550))

    def test_a_mode_or_an_integer(self):
        change = Change.read("u=rwX,g=u,o-x")
        mode = Mode(0o641)
        self.assertTrue(same(change(mode, "file"), Mode(0o770)))
        self.assertTrue(same(change(0o641, "file"), Mode(0o770)))
        self.assertTrue(same(change(form="folder", mode=mode), Mode(0o770)))
        self.assertEqual(mode.number, 0o641)

    def test_no_mode(self):
        for value in (-1, 512, True, None, "rwxr-x---"):
            with self.assertRaises(BadMode) as held:
                Change.read("u+r")(value, "file")
            self.assertEqual(held.exception.part, "number")


class Times(Case):
    def test_one_then_other(self):
        texts = [text for text in pool() if text.count(",") < 4]
        for k, one in enumerate(texts):
            other = texts[(7 * k + 3) % len(texts)]
            first, second = Change.read(one), Change.read(other)
            got = first * second
            self.assertIs(type(got), Change)
            self.assertTrue(same(got.clauses, first.clauses + second.clauses))
            for form in FORMS:
                for number in range(0, 512, 5):
                    self.assertEqual(got(number, form), second(first(number, form), form))
            self.assertEqual((first, second), (Change.read(one), Change.read(other)))

    def test_the_order_counts(self):
        one, other = Change.read("u+r"), Change.read("a=")
        self.assertEqual([(one * other)(0, "file").number, (other * one)(0, "file").number], [0, 0o400])

    def test_in_place(self):
        old = change = Change.read("u=r")
        other = Change.read("g=u,o=g")
        change *= other
        self.assertTrue(same(change, Change.read("u=r,g=u,o=g")))
        self.assertTrue(same(old, Change.read("u=r")))
        self.assertTrue(same(other, Change.read("g=u,o=g")))
        self.assertEqual(old(0, "file"), Mode(0o400))

    def test_too_many(self):
        for first in range(1, 9):
            for second in range(1, 9):
                one, other = Change(*CLAUSES[:first]), Change(*CLAUSES[:second])
                if first + second <= 8:
                    self.assertEqual(len((one * other).clauses), first + second)
                else:
                    self.too_many(lambda: one * other)
                self.assertEqual((len(one.clauses), len(other.clauses)), (first, second))

    def test_too_many_in_place(self):
        old = change = Change(*CLAUSES[:5])
        with self.assertRaises(TooMany):
            change *= Change(*CLAUSES[:4])
        self.assertIs(change, old)
        self.assertTrue(same(old.clauses, tuple(CLAUSES[:5])))


class Tables(Case):
    def test_tables(self):
        for text in pool():
            self.assertTrue(same(Change.read(text).tables, oracle.table(text)), text)

    def test_known_tables(self):
        same_all = (0, 1, 2, 3, 4, 5, 6, 7)
        self.assertTrue(same(Change.read("u+").tables, (same_all,) * 4))
        self.assertTrue(same(Change.read("u+r").tables, ((4, 5, 6, 7, 4, 5, 6, 7), same_all, same_all, same_all)))
        self.assertTrue(same(
            Change.read("a+X").tables, (same_all, same_all, (0, 7, 7, 7, 7, 7, 7, 7), (7, 7, 7, 7, 7, 7, 7, 7))
        ))
        self.assertTrue(same(Change.read("u=w").tables, (
            (0, 1, 2, 3, 0, 1, 2, 3), (4, 5, 6, 7, 4, 5, 6, 7), (0, 1, 2, 3, 0, 1, 2, 3), (0, 1, 2, 3, 0, 1, 2, 3),
        )))

    def test_like(self):
        texts = pool()
        images = {text: [oracle.image(text, form) for form in FORMS] for text in texts}
        found = {True: 0, False: 0}
        for one in texts:
            for other in texts[:50]:
                wanted = images[one] == images[other]
                self.assertIs(Change.read(one).like(Change.read(other)), wanted, (one, other))
                found[wanted] += one != other
        self.assertGreater(found[True], 10)
        self.assertGreater(found[False], 1000)
        self.assertIs(Change.read("u=g").like(other=Change.read("u=,u+g")), True)
        self.assertIs(Change.read("a+X").like(Change.read("a+x")), False)
        # These part on folders alone.
        self.assertIs(Change.read("a-x,a+X").like(Change.read("a-x")), False)


class Cycle(Case):
    def test_cycle(self):
        found = set()
        for text in pool():
            for form in FORMS:
                wanted = oracle.cycle(oracle.image(text, form))
                self.assertTrue(same(Change.read(text).cycle(form), wanted), (text, form, wanted))
                found.add(wanted)
        self.assertLessEqual({(0, 1), (1, 1), (2, 1), (3, 1), (1, 2), (2, 2), (3, 2), (3, 3), (2, 4)}, found)

    def test_known_cycles(self):
        for text, file, folder in (
            ("u+", (0, 1), (0, 1)),
            ("u=u", (0, 1), (0, 1)),
            ("a+X", (1, 1), (1, 1)),
            ("u=g,g=o,o=u", (1, 2), (1, 2)),
            ("u=g,g=o", (2, 1), (2, 1)),
            ("u=g,g=o,o-x", (3, 1), (3, 1)),
            ("u=g,g=o,o=", (3, 1), (3, 1)),
        ):
            change = Change.read(text)
            self.assertTrue(same([change.cycle("file"), change.cycle(form="folder")], [file, folder]), text)

    def test_files_and_folders_apart(self):
        found = [text for text in pool() if oracle.cycle(oracle.image(text, "file")) != Change.read(text).cycle("folder")]
        self.assertTrue(found)
        for text in found:
            self.assertNotEqual(Change.read(text).cycle("file"), Change.read(text).cycle("folder"))


class Setting(Case):
    def test_every_mode(self):
        for number in range(512):
            mode = Mode(number)
            change = Change.setting(mode)
            self.assertIs(type(change), Change)
            digits = ["".join(sign for sign in str(mode)[k:k + 3] if sign != "-") for k in (0, 3, 6)]
            self.assertEqual(str(change), f"u={digits[0]},g={digits[1]},o={digits[2]}")
            self.assertTrue(same(Change.setting(mode=number), change))
            for form in FORMS:
                for old in (0, 0o777, 511 - number, 0o427):
                    self.assertEqual(change(old, form), mode)
            self.assertEqual(mode.number, number)
        self.assertTrue(same(Change.setting(0).setting(0o750), Change.read("u=rwx,g=rx,o=")))

    def test_no_mode(self):
        for value in (-1, 512, False, None, "rwxr-x---"):
            with self.assertRaises(BadMode) as held:
                Change.setting(value)
            self.assertEqual(held.exception.part, "number")


class Parting(Case):
    def wanted(self, images, one, other):
        for form in FORMS:
            for number in oracle.UNIFORM:
                if images[one][form][number] != images[other][form][number]:
                    return (form, Mode(number))
        self.assertEqual(images[one], images[other])
        return None

    def test_parting(self):
        texts = pool()
        images = {text: {form: oracle.image(text, form) for form in FORMS} for text in texts}
        found = []
        for one in texts:
            for other in texts[:40]:
                got = parting(Change.read(one), Change.read(other))
                wanted = self.wanted(images, one, other)
                self.assertTrue(same(got, wanted), (one, other, got, wanted))
                found.append(got)
        self.assertIn(None, found)
        self.assertGreater(sum(got is not None and got[0] == "folder" for got in found), 3)

    def test_known_partings(self):
        for one, other, wanted in (
            ("a+X", "a+x", ("file", Mode(0))),
            ("u=g", "u=,u+g", None),
            ("u+r", "u+r", None),
            ("a-r", "u+", ("file", Mode(0o007))),
            ("u-r", "u+", ("file", Mode(0o700))),
            ("g-r", "u+", ("file", Mode(0o070))),
            ("a=u", "a=g", ("file", Mode(0o070))),
            ("a=rwx", "a=rwX", ("file", Mode(0))),
            ("a-x,a+X", "a-x", ("folder", Mode(0))),
            ("u=x,u-o,go-rwx,g+X", "u=x,u-o,go-rwx,g=u", ("folder", Mode(0o007))),
            ("a=,o=X", "a=", ("folder", Mode(0))),
        ):
            first, second = Change.read(one), Change.read(other)
            self.assertTrue(same(parting(first, second), wanted), (one, other, parting(first, second)))
            self.assertTrue(same(parting(other=first, one=second), wanted))


class Conventions(Case):
    def test_arguments_stay(self):
        for call in (
            Change, Change.read, lambda value: Change(CLAUSES[0], value), lambda value: Change(*[value] * 9),
            lambda value: Change(CLAUSES[0]) == value,
        ):
            for value in any_values():
                before = described(value)
                try:
                    call(value)
                except (BadClause, TooMany):
                    pass
                self.assertEqual(described(value), before)

    def test_what_is_done_to_arguments_afterwards(self):
        clauses = CLAUSES[:3]
        change = Change(*clauses)
        clauses.append(CLAUSES[4])
        clauses[0] = CLAUSES[5]
        self.assertTrue(same(change.clauses, tuple(CLAUSES[:3])))

    def test_changes_stay(self):
        one, other = Change.read("u=g,g=o"), Change.read("a+X,o-w")
        for _ in range(3):
            self.assertTrue(same(parting(one, other), ("file", Mode(0o007))))
            self.assertIs(one.like(other), False)
            self.assertTrue(same(one.cycle("file"), (2, 1)))
            self.assertTrue(same(one.tables, oracle.table("u=g,g=o")))
            self.assertEqual(str(one * other), "u=g,g=o,a+X,o-w")
            self.assertEqual([str(one), str(other)], ["u=g,g=o", "a+X,o-w"])
            self.assertEqual(one(0o421, "file"), Mode(0o211))


class Examples(Case):
    def test_examples(self):
        mend = Change.read("u=rwX,g=u,o-x")
        self.assertTrue(same(
            [str(mend(Mode(0o641), "file")), str(mend(Mode(0o640), "file")), str(mend(Mode(0o640), "folder"))],
            ["rwxrwx---", "rw-rw----", "rwxrwx---"],
        ))
        self.assertTrue(same(
            [str(Clause("ugo", "=", "rX")), str(mend * Change.read("a-w")), str(Change.setting(Mode(0o750)))],
            ["a=rX", "u=rwX,g=u,o-x,a-w", "u=rwx,g=rx,o="],
        ))
        turn = Change.read("u=g,g=o,o=u")
        self.assertTrue(same(
            [turn.tables[0], turn.cycle("file"), Change.read("a+X").cycle("folder")],
            [(0, 2, 5, 7, 0, 2, 5, 7), (1, 2), (1, 1)],
        ))
        self.assertTrue(same(
            [
                parting(Change.read("a+X"), Change.read("a+x")) == ("file", Mode(0)),
                parting(Change.read("u=g"), Change.read("u=,u+g")),
            ],
            [True, None],
        ))
        self.refused(1, Change.read, "u+r,,o-x")


if __name__ == "__main__":
    unittest.main()
