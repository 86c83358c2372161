"""Point 19 of the document word for word: where a text has the first word that cannot stand, or None; made without the package."""

import re

from tests import oracle

NAME = "[a-z]{1,8}"
PATH = f"{NAME}(/{NAME})*"
MODE = "([r-][w-][x-]){3}"


def is_name(word):
    return re.fullmatch(NAME, word) is not None


def is_path(word):
    return word == "." or re.fullmatch(PATH, word) is not None


def is_start(word):
    return word == "." or re.fullmatch(f"{NAME}(/{NAME}){{0,2}}", word) is not None


def is_clause(text):
    found = re.fullmatch("([^-+=]*)([-+=])(.*)", text, re.DOTALL)
    return found is not None and found[1] in oracle.WHOS + ["a"] and found[3] in oracle.WHATS


def is_change(text):
    parts = text.split(",")
    return len(parts) <= 8 and all(is_clause(part) for part in parts)


def is_mode(word):
    return re.fullmatch(MODE, word) is not None


def is_number(word, most):
    return re.fullmatch("0|[1-9][0-9]*", word) is not None and len(word) <= most


def first_wrong(words, *fits):
    """The index of the first word that does not fit, of a missing one or of one too many; or None."""
    for k, fit in enumerate(fits):
        if k == len(words):
            return k
        if not fit(words[k]):
            return k
    return len(fits) if len(words) > len(fits) else None


def wrong_user(words, told, most_reached):
    """Of a line that begins with user or chief."""
    groups = []

    def fits_group(word):
        fine = len(groups) < 2 and is_name(word) and word not in groups
        groups.append(word)
        return fine
    return first_wrong(words, lambda word: not most_reached, lambda word: is_name(word) and word not in told, *[fits_group] * len(words[2:]))


def wrong_command(words, names):
    return first_wrong(
        words, lambda word: True, lambda word: word in names, lambda word: word in ("first", "last"),
        lambda word: word in ("all", "folders", "files"), is_start, is_change,
    )


def in_tree(text):
    forms = {}
    for at, line in enumerate(text.split("\n")):
        words = line.split(" ")

        def fits_first(word):
            return at < 60 and re.fullmatch("d" + MODE if at == 0 else "[-d]" + MODE, word) is not None

        def fits_path(word):
            if at == 0 or word == ".":
                return at == 0 and word == "."
            return is_path(word) and word not in forms and forms.get(word.rpartition("/")[0]) == "d"
        k = first_wrong(words, fits_first, is_name, is_name, fits_path)
        if k is not None:
            return at, k
        forms["" if words[3] == "." else words[3]] = words[0][0]
    return None


def in_row(text):
    lines = [line.split(" ") for line in text.split("\n")]
    if lines[0][0] == "none":
        return (0, 1) if len(lines[0]) > 1 else (1, 0) if len(lines) > 1 else None
    names, commands = [], 0
    for at, words in enumerate(lines):
        if words[0] in ("user", "chief"):
            k = wrong_user(words, names, len(names) == 3 or commands > 0)
            names += words[1:2]
        elif words[0] == "do":
            k = 0 if commands == 10 else wrong_command(words, names)
            commands += 1
        else:
            k = 0
        if k is not None:
            return at, k
    return None if commands else (len(lines), 0)


def is_names(word):
    names = word.split(",")
    return word == "*" or len(names) <= 2 and all(is_name(name) for name in names) and names == sorted(set(names))


def wrong_kind_line(words):
    def is_digits(word):
        return re.fullmatch("[0-7]{3}", word) is not None

    def is_never(word):
        return is_digits(word) and not any(int(one) & int(two) for one, two in zip(word, words[3]))
    return first_wrong(words, lambda word: word in ("file", "folder"), is_names, is_names, is_digits, is_never)


def in_kind(text):
    for at, line in enumerate(text.split("\n")):
        k = 0 if at == 4 else wrong_kind_line(line.split(" "))
        if k is not None:
            return at, k
    return None


def in_line(line, users, paths=None):
    """The first word of a line to a desk that cannot stand, with users by these names; or None."""
    words = line.split(" ")
    first, rest = words[0], {"run", "drop", "keep", "alike", "atmost", "lost", "tree", "row"}
    if first in ("user", "chief"):
        if len(words) > 1 and len(users) == 3 and words[1] not in users:
            return 1
        return wrong_user(words, [], False)
    if first in ("do", "add"):
        return wrong_command(words, users)
    if first == "kind":
        return in_kind_line(words)
    fits = {
        "set": [is_path, is_mode], "mode": [is_path], "word": [is_path], "settles": [lambda word: is_number(word, 1)],
        "far": [lambda word: is_number(word, 60), lambda word: is_number(word, 60), is_path],
    }
    if first not in rest and first not in fits:
        return 0
    return first_wrong(words, lambda word: True, *fits.get(first, []))


def in_kind_line(words):
    if len(words) == 1:
        return 1
    # Each ; with a space on either side is one word.
    at = 1
    for many, part in enumerate(" ".join(words[1:]).split(" ; ")):
        k = 0 if many == 4 else wrong_kind_line(part.split(" "))
        if k is not None:
            return at + k
        at += len(part.split(" ")) + 1
    return None
