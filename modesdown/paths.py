"""Paths: the names that lead to an entry from the top of a tree, with / between."""

from modesdown.checks import is_name


def is_path(value):
    """Whether a value is a path; the empty string is the one of the top."""
    if not isinstance(value, str):
        return False
    return value == "" or all([is_name(name) for name in value.split("/")])


def names_in(path):
    """The list of the names of a path."""
    return [] if path == "" else path.split("/")


def joined(path, name):
    """The path of what stands by this name below what has the path."""
    return name if path == "" else f"{path}/{name}"
