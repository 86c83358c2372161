"""Checks of values of any kind."""

LETTERS = "abcdefghijklmnopqrstuvwxyz"


def is_whole(value):
    """Whether a value is an integer; a bool is none."""
    return isinstance(value, int) and not isinstance(value, bool)


def is_whole_to(value, most):
    """Whether a value is an integer from 0 to most."""
    return is_whole(value) and 0 <= value <= most


def is_choice(value, letters):
    """Whether a value is a string of some of these letters, perhaps none, in their order."""
    if not isinstance(value, str):
        return False
    return value == "".join([letter for letter in letters if letter in value])


def is_name(value):
    """Whether a value is a name: a string of 1 to 8 letters a to z."""
    if not isinstance(value, str) or not 1 <= len(value) <= 8:
        return False
    return all([letter in LETTERS for letter in value])


def are_unlike_names(values):
    """Whether all values of a list or tuple are names, and none stands twice."""
    if not all([is_name(value) for value in values]):
        return False
    return len(set(values)) == len(values)
