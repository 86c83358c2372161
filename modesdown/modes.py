"""Modes: nine bits, three of the owner, three of the group, three of the others."""

from modesdown.checks import is_whole, is_whole_to
from modesdown.errors import BadMode, BadText

NINE_SIGNS = "rwxrwxrwx"
NINE_BITS = (0o400, 0o200, 0o100, 0o40, 0o20, 0o10, 4, 2, 1)
# What a letter counts in a digit, so also what its bits are, taken in the bits of x.
WEIGHTS = {"r": 4, "w": 2, "x": 1}


def pattern_in(number, weight):
    """The pattern that the letter of this weight has in a mode's number."""
    bits = number // weight
    return ((bits >> 4) & 4) | ((bits >> 2) & 2) | (bits & 1)


def bits_of(pattern, weight):
    """The bits of a mode in which the letter of this weight has this pattern, and no other letter stands."""
    return (((pattern & 4) << 4) | ((pattern & 2) << 2) | (pattern & 1)) * weight


def weight_of(letter):
    """The weight of a letter; any other value is refused."""
    if not isinstance(letter, str) or letter not in WEIGHTS:
        raise BadMode("letter")
    return WEIGHTS[letter]


class Mode:
    """A mode. It never changes."""

    MOST = 511

    def __init__(self, number):
        if not is_whole_to(number, Mode.MOST):
            raise BadMode("number")
        self._number = number

    @classmethod
    def read(cls, text):
        """The mode with these nine signs."""
        if not isinstance(text, str):
            raise BadText(0, 0)
        number = 0
        for at, sign in enumerate(text[:9]):
            if sign == NINE_SIGNS[at]:
                number = number | NINE_BITS[at]
            elif sign != "-":
                raise BadText(0, at)
        if len(text) != 9:
            raise BadText(0, min(len(text), 9))
        return cls(number)

    @staticmethod
    def of(owner, group, others):
        """The mode of three digits."""
        for part, digit in (("owner", owner), ("group", group), ("others", others)):
            if not is_whole_to(digit, 7):
                raise BadMode(part)
        return Mode(owner * 64 + group * 8 + others)

    @staticmethod
    def uniform(pattern):
        """The mode whose three letters have this pattern."""
        return Mode(bits_of(pattern, 7))

    @property
    def number(self):
        return self._number

    @property
    def digits(self):
        return (self._number >> 6, (self._number >> 3) & 7, self._number & 7)

    def pattern(self, letter):
        """The pattern of a letter."""
        return pattern_in(self._number, weight_of(letter))

    def with_pattern(self, letter, pattern):
        """The mode with another pattern of this letter."""
        weight = weight_of(letter)
        if not is_whole_to(pattern, 7):
            raise BadMode("pattern")
        kept = self._number & (Mode.MOST - bits_of(7, weight))
        return Mode(kept | bits_of(pattern, weight))

    def __or__(self, other):
        if not may_stand(other):
            return NotImplemented
        return Mode(self._number | number_of(other))

    def __ror__(self, other):
        return self | other

    def __and__(self, other):
        if not may_stand(other):
            return NotImplemented
        return Mode(self._number & number_of(other))

    def __rand__(self, other):
        return self & other

    def __xor__(self, other):
        if not may_stand(other):
            return NotImplemented
        return Mode(self._number ^ number_of(other))

    def __rxor__(self, other):
        return self ^ other

    def __invert__(self):
        return Mode(Mode.MOST - self._number)

    def __contains__(self, bit):
        if not isinstance(bit, Mode) and not is_whole_to(bit, Mode.MOST):
            return False
        bits = number_of(bit)
        return self._number & bits == bits

    def __len__(self):
        return len([bit for bit in NINE_BITS if self._number & bit])

    def __bool__(self):
        return bool(self._number)

    def __eq__(self, other):
        return isinstance(other, Mode) and self._number == other._number

    def __str__(self):
        return "".join([sign if self._number & bit else "-" for sign, bit in zip(NINE_SIGNS, NINE_BITS)])

    def __repr__(self):
        return f"Mode(0o{self._number:03o})"


def may_stand(value):
    """Whether a value may stand beside a mode: a Mode, or an integer, also one that is no mode."""
    return isinstance(value, Mode) or is_whole(value)


def number_of(mode):
    """The number of what is passed as a mode: a Mode, or an integer from 0 to 511."""
    if isinstance(mode, Mode):
        return mode.number
    if not is_whole_to(mode, Mode.MOST):
        raise BadMode("number")
    return mode
