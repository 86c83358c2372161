"""Points 2 and 4, clauses, and what modesdown/changes.py tells of them."""

import unittest

from modesdown.changes import Change, Clause
from modesdown.errors import BadClause, BadMode
from modesdown.modes import Mode
from tests import oracle
from tests.samples import any_values, described, is_integer, same


class Case(unittest.TestCase):
    def clause(self, got, who, sign, what):
        self.assertIs(type(got), Clause)
        self.assertTrue(same((got.who, got.sign, got.what), (who, sign, what)))

    def refused(self, at, call, *values, **named):
        with self.assertRaises(BadClause) as held:
            call(*values, **named)
        self.assertIs(type(held.exception), BadClause)
        self.assertTrue(same(held.exception.at, at), (held.exception.at, at))

    def becomes(self, clause, number, form, wanted):
        got = clause(Mode(number), form)
        self.assertIs(type(got), Mode)
        self.assertTrue(same(got.number, wanted), (str(clause), oct(number), form, oct(got.number), oct(wanted)))


class Parts(Case):
    def test_every_who_sign_and_what(self):
        self.assertEqual((len(oracle.WHOS), len(oracle.WHATS), len(set(oracle.WHATS))), (7, 19, 19))
        for who in oracle.WHOS:
            for sign in oracle.SIGNS:
                for what in oracle.WHATS:
                    self.clause(Clause(who, sign, what), who, sign, what)
                    self.clause(Clause(what=what, who=who, sign=sign), who, sign, what)

    def test_a_is_all_three(self):
        for sign in oracle.SIGNS:
            for what in oracle.WHATS:
                self.clause(Clause("a", sign, what), "ugo", sign, what)

    def test_every_other_who(self):
        strings = [one + two + three for one in " ugoar" for two in ["", *"ugoar"] for three in ["", *"ugoar"]]
        for who in strings + ["", "ugoo", "ugou", "augo", "ugoa", "u,g", "u ", "U", "A", "ugo\n"]:
            if who in oracle.WHOS or who == "a":
                self.assertEqual(Clause(who, "+", "r").who, "ugo" if who == "a" else who)
            else:
                self.refused(0, Clause, who, "+", "r")

    def test_every_other_what(self):
        letters = ["", *"rwxXugoas "]
        strings = [one + two + three for one in letters for two in letters for three in letters]
        for what in strings + ["rwxXr", "rwXx", "rrwxX", "rwxXu", "ugo", "ug", "r,w", "-", "+r", "=", "U", "R", "\n", "r\n"]:
            if what in oracle.WHATS:
                self.clause(Clause("u", "-", what), "u", "-", what)
            else:
                self.refused(2, Clause, "u", "-", what)

    def test_any_value_in_each_place(self):
        for value in any_values():
            text = value if isinstance(value, str) else None
            if text is None or text not in oracle.WHOS + ["a"]:
                self.refused(0, Clause, value, "+", "r")
                self.refused(0, Clause, who=value, sign="+", what="r")
            if text is None or text not in oracle.SIGNS:
                self.refused(1, Clause, "u", value, "r")
                self.refused(1, Clause, who="u", sign=value, what="r")
            if text is None or text not in oracle.WHATS:
                self.refused(2, Clause, "u", "+", value)
                self.refused(2, Clause, who="u", sign="+", what=value)

    def test_no_sign(self):
        for sign in ("", "++", "+-", "+-=", "=+", " +", "u", "==", "~", "+\n"):
            self.refused(1, Clause, "u", sign, "r")

    def test_the_first_wrong_part(self):
        for value in any_values():
            if not isinstance(value, str):
                self.refused(0, Clause, value, value, value)
                self.refused(0, Clause, value, "+", value)
                self.refused(0, Clause, value, value, "r")
                self.refused(1, Clause, "u", value, value)
        self.refused(0, Clause, "gu", "?", "wr")
        self.refused(0, Clause, "", "", "q")
        self.refused(1, Clause, "a", "?", "wr")
        self.refused(2, Clause, "a", "=", "wr")

    def test_properties_are_only_read(self):
        clause = Clause("u", "+", "r")
        for name in ("who", "sign", "what"):
            with self.assertRaises(AttributeError):
                setattr(clause, name, "g")
        self.clause(clause, "u", "+", "r")


class Equality(Case):
    def test_equal_if_the_parts_are(self):
        every = [(who, sign, what) for who in oracle.WHOS for sign in oracle.SIGNS for what in oracle.WHATS]
        clauses = [Clause(*parts) for parts in every]
        for k, one in enumerate(clauses):
            for j in range(k % 5, len(clauses), 5):
                self.assertIs(one == clauses[j], k == j)
                self.assertIs(one != clauses[j], k != j)
            self.assertIs(one == Clause(*every[k]), True)

    def test_each_part_counts(self):
        one = Clause("u", "+", "r")
        self.assertIs(one == Clause("g", "+", "r"), False)
        self.assertIs(one == Clause("u", "-", "r"), False)
        self.assertIs(one == Clause("u", "+", "w"), False)
        self.assertIs(Clause("a", "+", "r") == Clause("ugo", "+", "r"), True)
        # Parts count, not what the clauses do.
        self.assertIs(Clause("u", "+", "") == Clause("u", "-", ""), False)
        self.assertIs(Clause("u", "+", "xX") == Clause("u", "+", "x"), False)

    def test_equal_to_nothing_of_another_kind(self):
        one = Clause("u", "+", "r")
        for value in any_values() + [("u", "+", "r"), Change(one)]:
            if not isinstance(value, Clause):
                self.assertIs(one == value, False)
                self.assertIs(value == one, False)


class Texts(Case):
    def test_written_and_read(self):
        for who in oracle.WHOS:
            for sign in oracle.SIGNS:
                for what in oracle.WHATS:
                    text = ("a" if who == "ugo" else who) + sign + what
                    self.assertTrue(same(str(Clause(who, sign, what)), text))
                    self.clause(Clause.read(text), who, sign, what)
                    self.clause(Clause.read(text=who + sign + what), who, sign, what)
        self.clause(Clause("u", "+", "r").read("g=rX"), "g", "=", "rX")
        self.assertEqual(str(Clause.read("ugo=rX")), "a=rX")
        self.assertEqual(str(Clause("a", "-", "u")), "a-u")

    def test_what_is_no_string(self):
        for value in any_values():
            if not isinstance(value, str):
                self.refused(1, Clause.read, value)
        self.refused(1, Clause.read, ("u", "+", "r"))
        self.refused(1, Clause.read, b"u+r")

    def test_no_sign(self):
        for text in ("", "u", "ur", "gu", "rwx", "u r", "u*r", "\n", "ugo", "u:r" * 600):
            self.refused(1, Clause.read, text)

    def test_wrong_parts(self):
        for text in ("+r", "=", "-", "gu+r", "aa+r", "ua=r", "r+r", " u+r", "ugoo+r", "U-x", "u,+r", "gu+wr", "\nu+r"):
            self.refused(0, Clause.read, text)
        for text in ("u+wr", "a=rr", "u+ r", "u+r ", "g=ug", "o-a", "u=rwu", "u+r\n", "u+r,g+w", "u=X "):
            self.refused(2, Clause.read, text)

    def test_the_first_sign_parts(self):
        for text in ("u+-r", "u==", "u-=r", "u=r+w", "u+r-", "a--"):
            self.refused(2, Clause.read, text)
        for text in ("+u+r", "-=r", "==="):
            self.refused(0, Clause.read, text)


class Done(Case):
    def test_every_clause_on_every_mode(self):
        for who in oracle.WHOS:
            for sign in oracle.SIGNS:
                for what in oracle.WHATS:
                    clause = Clause(who, sign, what)
                    for form in ("file", "folder"):
                        wanted = [oracle.clause_done(who, sign, what, number, form) for number in range(512)]
                        got = [clause(number, form).number for number in range(512)]
                        self.assertEqual(got, wanted, (str(clause), form))

    def test_a_mode_or_an_integer(self):
        clause = Clause.read("go=u")
        for number in range(512):
            mode = Mode(number)
            wanted = number // 64 * 0o111
            self.becomes(clause, number, "file", wanted)
            self.assertTrue(same(clause(number, "folder"), Mode(wanted)))
            self.assertTrue(same(clause(form="file", mode=mode), Mode(wanted)))
            self.assertEqual(mode.number, number)

    def test_no_mode(self):
        for value in (-1, 512, True, None, "rwxr-x---", (7, 5, 0)):
            with self.assertRaises(BadMode) as held:
                Clause.read("u+r")(value, "file")
            self.assertEqual(held.exception.part, "number")

    def test_big_x(self):
        clause = Clause.read("u+X")
        for form, number, wanted in (
            ("file", 0o666, 0o666), ("folder", 0o666, 0o766), ("file", 0o601, 0o701), ("file", 0o610, 0o710),
            ("file", 0o100, 0o100), ("folder", 0, 0o100), ("file", 0, 0), ("file", 0o006, 0o006),
        ):
            self.becomes(clause, number, form, wanted)
        # The x that stands may be the one that is taken away.
        self.becomes(Clause.read("o-X"), 0o001, "file", 0)
        self.becomes(Clause.read("o-X"), 0o001, "folder", 0)
        self.becomes(Clause.read("a=rX"), 0o641, "file", 0o555)
        self.becomes(Clause.read("a=rX"), 0o640, "file", 0o444)
        self.becomes(Clause.read("a=rX"), 0o640, "folder", 0o555)
        self.becomes(Clause.read("u=xX"), 0o640, "file", 0o140)

    def test_a_class_as_the_what(self):
        for form in ("file", "folder"):
            self.becomes(Clause.read("g=u"), 0o751, form, 0o771)
            self.becomes(Clause.read("g+o"), 0o726, form, 0o766)
            self.becomes(Clause.read("u-o"), 0o705, form, 0o205)
            self.becomes(Clause.read("go=u"), 0o421, form, 0o444)

    def test_a_class_that_is_among_the_who(self):
        for form in ("file", "folder"):
            self.becomes(Clause.read("u-u"), 0o751, form, 0o051)
            self.becomes(Clause.read("u=u"), 0o751, form, 0o751)
            self.becomes(Clause.read("u+u"), 0o751, form, 0o751)
            # All classes take the letters that this class had ahead of the clause.
            self.becomes(Clause.read("a-u"), 0o537, form, 0o022)
            self.becomes(Clause.read("a-g"), 0o651, form, 0o200)
            self.becomes(Clause.read("a=o"), 0o751, form, 0o111)
            self.becomes(Clause.read("a+g"), 0o421, form, 0o623)
            self.becomes(Clause.read("ug-u"), 0o577, form, 0o027)

    def test_no_letters(self):
        for form in ("file", "folder"):
            self.becomes(Clause.read("a="), 0o751, form, 0)
            self.becomes(Clause.read("g="), 0o751, form, 0o701)
            self.becomes(Clause.read("a+"), 0o751, form, 0o751)
            self.becomes(Clause.read("a-"), 0o751, form, 0o751)

    def test_signs(self):
        for form in ("file", "folder"):
            self.becomes(Clause.read("go+r"), 0o720, form, 0o764)
            self.becomes(Clause.read("go-r"), 0o764, form, 0o720)
            self.becomes(Clause.read("go=r"), 0o731, form, 0o744)


class Conventions(Case):
    def test_arguments_stay(self):
        for call in (
            lambda value: Clause(value, value, value), lambda value: Clause("u", value, value),
            lambda value: Clause("u", "+", value), Clause.read, lambda value: Clause("u", "+", "r") == value,
        ):
            for value in any_values():
                before = described(value)
                try:
                    call(value)
                except BadClause:
                    pass
                self.assertEqual(described(value), before)

    def test_the_same_answer_again(self):
        clause = Clause("ugo", "=", "rX")
        mode = Mode(0o640)
        for _ in range(3):
            self.becomes(clause, 0o640, "folder", 0o555)
            self.becomes(clause, 0o640, "file", 0o444)
            self.assertTrue(same(clause(mode, "folder"), Mode(0o555)))
            self.assertEqual(str(clause), "a=rX")
            self.clause(clause, "ugo", "=", "rX")
            self.assertTrue(is_integer(mode.number) and mode.number == 0o640)

    def test_examples(self):
        self.assertEqual(str(Clause("ugo", "=", "rX")), "a=rX")
        self.refused(0, Clause, "gu", "+", "r")


if __name__ == "__main__":
    unittest.main()
