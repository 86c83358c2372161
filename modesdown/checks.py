"""Checks of values of any kind."""


def is_whole(value):
    """Whether a value is an integer; a bool is none."""
    return isinstance(value, int) and not isinstance(value, bool)


def is_whole_to(value, most):
    """Whether a value is an integer from 0 to most."""
    return is_whole(value) and 0 <= value <= most


def is_choice(value, letters):
    """Whether a value is a string of some of these letters, perhaps none, in their order."""
    if not isinstance(value, str):
        return False
    return value == "".join([letter for letter in letters if letter in value])
