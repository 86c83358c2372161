"""Points 2 and 3 and the heading modesdown/modes.py."""

import unittest

from modesdown.changes import Change, Clause
from modesdown.errors import BadMode, BadText
from modesdown.modes import Mode
from tests.samples import any_values, described, is_integer, same

ALL = range(512)


def signs(number):
    """The nine signs, sign by sign."""
    return "".join(sign if number >> (8 - k) & 1 else "-" for k, sign in enumerate("rwxrwxrwx"))


def pattern(number, letter):
    bits = {"r": (0o400, 0o40, 4), "w": (0o200, 0o20, 2), "x": (0o100, 0o10, 1)}[letter]
    return sum(worth for bit, worth in zip(bits, (4, 2, 1)) if number & bit)


class Case(unittest.TestCase):
    def mode(self, got, number):
        """The value is the Mode with this number."""
        self.assertIs(type(got), Mode)
        self.assertTrue(is_integer(got.number))
        self.assertEqual(got.number, number)

    def refused(self, part, call, *values, **named):
        with self.assertRaises(BadMode) as held:
            call(*values, **named)
        self.assertIs(type(held.exception), BadMode)
        self.assertEqual(held.exception.part, part)

    def unread(self, word, text):
        with self.assertRaises(BadText) as held:
            Mode.read(text)
        self.assertIs(type(held.exception), BadText)
        self.assertTrue(same((held.exception.line, held.exception.word), (0, word)), held.exception)


class Numbers(Case):
    def test_every_number(self):
        for number in ALL:
            self.mode(Mode(number), number)
            self.mode(Mode(number=number), number)

    def test_most(self):
        self.assertTrue(same(Mode.MOST, 511))
        self.assertTrue(same(Mode(0).MOST, 511))

    def test_what_is_no_number_of_a_mode(self):
        for value in any_values():
            if is_integer(value) and 0 <= value <= 511:
                self.mode(Mode(value), value)
            else:
                self.refused("number", Mode, value)
                self.refused("number", Mode, number=value)

    def test_the_edges(self):
        for value in (-1, 512, True, False, "5", Mode(5), [5], None):
            self.refused("number", Mode, value)

    def test_digits(self):
        for number in ALL:
            digits = tuple(int(digit) for digit in f"{number:03o}")
            self.assertTrue(same(Mode(number).digits, digits))

    def test_properties_are_only_read(self):
        mode = Mode(0o750)
        for name in ("number", "digits"):
            with self.assertRaises(AttributeError):
                setattr(mode, name, 5)
        self.mode(mode, 0o750)


class Signs(Case):
    def test_written_and_read(self):
        for number in ALL:
            self.assertTrue(same(str(Mode(number)), signs(number)))
            self.mode(Mode.read(signs(number)), number)
            self.mode(Mode.read(text=signs(number)), number)

    def test_read_off_an_object(self):
        self.mode(Mode(0).read("rwxr-x---"), 0o750)

    def test_one_wrong_sign(self):
        for number in (0, 511, 0o750, 0o027):
            for at in range(9):
                for wrong in "rwxXst10 .R\n~":
                    if wrong != "rwxrwxrwx"[at]:
                        self.unread(at, signs(number)[:at] + wrong + signs(number)[at + 1:])

    def test_the_first_of_wrong_signs(self):
        self.unread(0, "xwrxwrxwr")
        self.unread(2, "rw?rw?rw?")
        self.unread(1, "rr-------")
        self.unread(3, "---x--x--")
        self.unread(8, "--------r")

    def test_too_few_signs(self):
        for many in range(9):
            self.unread(many, "rwxrwxrwx"[:many])
            self.unread(many, "-" * many)

    def test_too_many_signs(self):
        for text in ("rwxrwxrwxr", "----------", "rwxr-x---\n", "rwxr-x--- ", "rwxr-x---" * 2, "-" * 2000, "rwx" * 600):
            self.unread(9, text)

    def test_a_wrong_sign_counts_ahead_of_the_number_of_signs(self):
        self.unread(2, "rw?")
        self.unread(0, "?")
        self.unread(3, "rwx?")
        self.unread(8, "--------?-")
        self.unread(4, "----r" + "-" * 20)
        self.unread(9, "---------?")

    def test_what_is_no_string(self):
        for value in any_values():
            if not isinstance(value, str):
                self.unread(0, value)
        self.unread(0, list("rwxr-x---"))
        self.unread(0, tuple("rwxr-x---"))
        self.unread(0, b"rwxr-x---")
        self.unread(0, 0o750)
        self.unread(0, Mode(0o750))

    def test_repr(self):
        for number in ALL:
            self.assertTrue(same(repr(Mode(number)), "Mode(0o" + oct(number)[2:].zfill(3) + ")"))
        self.assertEqual([repr(Mode(0)), repr(Mode(7)), repr(Mode(0o70))], ["Mode(0o000)", "Mode(0o007)", "Mode(0o070)"])


class Digits(Case):
    def test_of(self):
        for number in ALL:
            owner, group, others = number // 64, number // 8 % 8, number % 8
            self.mode(Mode.of(owner, group, others), number)
            self.mode(Mode.of(others=others, owner=owner, group=group), number)
        self.mode(Mode(0).of(7, 5, 0), 0o750)

    def test_each_part_wrong(self):
        for value in any_values():
            if is_integer(value) and 0 <= value <= 7:
                self.mode(Mode.of(value, value, value), value * 0o111)
                continue
            self.refused("owner", Mode.of, value, 7, 0)
            self.refused("group", Mode.of, 0, value, 7)
            self.refused("others", Mode.of, 7, 0, value)
            self.refused("owner", Mode.of, owner=value, group=7, others=0)

    def test_the_first_wrong_part(self):
        self.refused("owner", Mode.of, 8, 8, 8)
        self.refused("owner", Mode.of, -1, 0, None)
        self.refused("owner", Mode.of, True, False, 0)
        self.refused("group", Mode.of, 7, "7", -1)
        self.refused("group", Mode.of, 7, False, True)
        self.refused("others", Mode.of, 7, 7, 8)


class Patterns(Case):
    def test_uniform(self):
        numbers = [0, 0o007, 0o070, 0o077, 0o700, 0o707, 0o770, 0o777]
        for told, number in enumerate(numbers):
            self.mode(Mode.uniform(told), number)
            self.mode(Mode.uniform(pattern=told), number)
            self.assertEqual([Mode.uniform(told).pattern(letter) for letter in "rwx"], [told] * 3)

    def test_pattern(self):
        for number in ALL:
            for letter in "rwx":
                self.assertTrue(same(Mode(number).pattern(letter), pattern(number, letter)))
                self.assertTrue(same(Mode(number).pattern(letter=letter), pattern(number, letter)))

    def test_with_pattern(self):
        for number in ALL:
            mode = Mode(number)
            for letter in "rwx":
                for told in range(8):
                    got = mode.with_pattern(letter, told)
                    self.assertIs(type(got), Mode)
                    for other in "rwx":
                        wanted = told if other == letter else pattern(number, other)
                        self.assertEqual(pattern(got.number, other), wanted)
            self.mode(mode, number)
        self.mode(Mode(0o750).with_pattern(pattern=1, letter="x"), 0o641)

    def test_no_letter(self):
        mode = Mode(0o750)
        for value in any_values() + ["R", "rwx", "r ", b"r"]:
            if isinstance(value, str) and value in ("r", "w", "x"):
                continue
            self.refused("letter", mode.pattern, value)
            self.refused("letter", mode.pattern, letter=value)
            self.refused("letter", mode.with_pattern, value, 5)
            self.refused("letter", mode.with_pattern, value, 8)
            self.refused("letter", mode.with_pattern, pattern=None, letter=value)

    def test_no_pattern(self):
        mode = Mode(0o750)
        for value in any_values():
            if is_integer(value) and 0 <= value <= 7:
                self.assertEqual(mode.with_pattern("w", value).pattern("w"), value)
            else:
                for letter in "rwx":
                    self.refused("pattern", mode.with_pattern, letter, value)
                    self.refused("pattern", mode.with_pattern, letter=letter, pattern=value)
        self.mode(mode, 0o750)


class Operators(Case):
    def test_two_modes(self):
        for one in ALL:
            for other in range(one % 7, 512, 7):
                first, second = Mode(one), Mode(other)
                self.mode(first | second, one | other)
                self.mode(first & second, one & other)
                self.mode(first ^ second, one ^ other)
                self.mode(first, one)
                self.mode(second, other)

    def test_an_integer_on_either_side(self):
        for one in range(0, 512, 3):
            mode = Mode(one)
            for other in range(one % 11, 512, 11):
                self.mode(mode | other, one | other)
                self.mode(other | mode, one | other)
                self.mode(mode & other, one & other)
                self.mode(other & mode, one & other)
                self.mode(mode ^ other, one ^ other)
                self.mode(other ^ mode, one ^ other)
            self.mode(mode, one)

    def test_other_bits(self):
        for number in ALL:
            mode = Mode(number)
            self.mode(~mode, 511 - number)
            self.mode(~~mode, number)
            self.mode(mode, number)

    def test_in_place(self):
        for other in (0o027, Mode(0o027)):
            old = mode = Mode(0o750)
            mode |= other
            self.mode(mode, 0o777)
            mode &= other
            self.mode(mode, 0o027)
            mode ^= Mode(0o070)
            self.mode(mode, 0o057)
            mode ^= 0o050
            self.mode(mode, 0o007)
            self.mode(old, 0o750)
            number = 0o100
            number |= old
            self.mode(number, 0o750)
            number = 0o777
            number &= old
            self.mode(number, 0o750)
            number = 0o777
            number ^= old
            self.mode(number, 0o027)
            if isinstance(other, Mode):
                self.mode(other, 0o027)

    def test_an_integer_that_is_no_mode(self):
        for number in (-1, 512, 1023, -511, 10 ** 60 - 1, -(10 ** 60) + 1):
            for held in (0, 5, 511):
                mode = Mode(held)
                self.refused("number", lambda: mode | number)
                self.refused("number", lambda: number | mode)
                self.refused("number", lambda: mode & number)
                self.refused("number", lambda: number & mode)
                self.refused("number", lambda: mode ^ number)
                self.refused("number", lambda: number ^ mode)
                self.mode(mode, held)

    def test_an_integer_that_is_no_mode_in_place(self):
        old = mode = Mode(5)
        with self.assertRaises(BadMode):
            mode |= 512
        with self.assertRaises(BadMode):
            mode &= -1
        with self.assertRaises(BadMode):
            mode ^= 512
        self.assertIs(mode, old)
        self.mode(old, 5)

    def test_other_values_give_no_mode(self):
        mode = Mode(5)
        for value in any_values():
            if is_integer(value) or isinstance(value, Mode):
                continue
            for call in (
                lambda: mode | value, lambda: value | mode, lambda: mode & value,
                lambda: value & mode, lambda: mode ^ value, lambda: value ^ mode,
            ):
                with self.assertRaises(TypeError):
                    call()


class Questions(Case):
    def test_in(self):
        for number in ALL:
            mode = Mode(number)
            for bit in range(number % 5, 512, 5):
                wanted = number | bit == number
                self.assertIs(bit in mode, wanted)
                self.assertIs(Mode(bit) in mode, wanted)
            self.mode(mode, number)

    def test_in_any_value(self):
        for value in any_values():
            if isinstance(value, Mode) or is_integer(value) and 0 <= value <= 511:
                self.assertIs(value in Mode(511), True)
            else:
                self.assertIs(value in Mode(511), False)
                self.assertIs(value in Mode(0), False)
        self.assertIs(0 in Mode(0), True)
        self.assertIs(True in Mode(1), False)
        self.assertIs("r" in Mode(511), False)
        self.assertIs(512 in Mode(511), False)

    def test_len_and_truth(self):
        for number in ALL:
            self.assertTrue(same(len(Mode(number)), bin(number).count("1")))
            self.assertIs(bool(Mode(number)), number != 0)

    def test_equal_modes(self):
        for one in ALL:
            for other in range(one % 13, 512, 13):
                self.assertIs(Mode(one) == Mode(other), one == other)
                self.assertIs(Mode(one) != Mode(other), one != other)
            self.assertIs(Mode(one) == Mode(one), True)
            self.assertIs(Mode(one) != Mode(one), False)

    def test_equal_to_nothing_of_another_kind(self):
        for number in (0, 1, 5, 511):
            for value in any_values() + ["---------", signs(number), (number,), Mode(number).digits]:
                if not isinstance(value, Mode):
                    self.assertIs(Mode(number) == value, False)
                    self.assertIs(value == Mode(number), False)
                    self.assertIs(Mode(number) != value, True)
        self.assertIs(Mode(1) == 1, False)
        self.assertIs(Mode(1) == True, False)  # noqa: E712
        self.assertIs(Mode(0) == False, False)  # noqa: E712


class Conventions(Case):
    def test_arguments_stay(self):
        for call in (
            Mode, Mode.read, Mode(5).pattern, lambda value: value in Mode(5), lambda value: Mode(5) == value,
            lambda value: Mode.of(value, value, value), lambda value: Mode(5).with_pattern("r", value),
            lambda value: Mode(5).with_pattern(value, value),
        ):
            for value in any_values():
                before = described(value)
                try:
                    call(value)
                except (BadMode, BadText):
                    pass
                self.assertEqual(described(value), before)

    def test_the_same_answer_again(self):
        mode = Mode(0o750)
        for _ in range(3):
            self.assertEqual(
                [mode.number, mode.digits, str(mode), repr(mode), len(mode), bool(mode), ~mode, mode | 7, mode.pattern("x")],
                [488, (7, 5, 0), "rwxr-x---", "Mode(0o750)", 5, True, Mode(0o027), Mode(0o757), 6],
            )
            self.mode(mode.with_pattern("x", 1), 0o641)
            self.mode(mode, 0o750)

    def test_beside_other_objects_of_the_package(self):
        for other in (Clause("u", "=", "r"), Change.read("u=r")):
            self.assertIs(Mode(0o400) == other, False)
            self.assertIs(other in Mode(511), False)


class Examples(Case):
    def test_examples(self):
        mode = Mode.read("rwxr-x---")
        self.assertTrue(same(
            [mode.number, mode.digits, mode.pattern("r"), mode.pattern("w"), str(mode | 0o004), str(0o700 & ~mode)],
            [488, (7, 5, 0), 6, 4, "rwxr-xr--", "---------"],
        ))
        self.assertTrue(same(
            [0o50 in mode, Mode(0o52) in mode, len(mode), repr(Mode.uniform(5)), repr(mode.with_pattern("x", 1))],
            [True, False, 5, "Mode(0o707)", "Mode(0o641)"],
        ))
        self.unread(8, "rwxr-x--")
        self.refused("group", Mode.of, 7, 8, 9)
        self.assertEqual(mode.pattern("x"), 6)
        self.assertEqual(str(mode.with_pattern("x", 1)), "rw-r----x")


if __name__ == "__main__":
    unittest.main()
