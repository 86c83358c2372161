"""Point 4 of the document word for word, with sets of letters: slow, and made without the package."""

from functools import lru_cache

LETTERS = "rwx"
CLASSES = "ugo"
WHOS = ["u", "g", "o", "ug", "uo", "go", "ugo"]
SIGNS = ["+", "-", "="]
PLAIN = [
    "", "r", "w", "x", "X", "rw", "rx", "rX", "wx", "wX", "xX", "rwx", "rwX", "rxX", "wxX", "rwxX",
]
WHATS = PLAIN + ["u", "g", "o"]
UNIFORM = [0, 0o007, 0o070, 0o077, 0o700, 0o707, 0o770, 0o777]


@lru_cache(maxsize=None)
def opened(number):
    """The letters of each class."""
    signs = f"{number:09b}"
    return {
        who: {letter for letter, sign in zip(LETTERS, signs[3 * k:3 * k + 3]) if sign == "1"}
        for k, who in enumerate(CLASSES)
    }


def closed(letters):
    return int("".join("1" if letter in letters[who] else "0" for who in CLASSES for letter in LETTERS), 2)


def clause_done(who, sign, what, number, form):
    before = opened(number)
    if what in before:
        meant = before[what]
    else:
        meant = {letter for letter in what if letter in LETTERS}
        if "X" in what and (form == "folder" or any("x" in letters for letters in before.values())):
            meant = meant | {"x"}
    after = {}
    for one, letters in before.items():
        if one not in who:
            after[one] = letters
        elif sign == "+":
            after[one] = letters | meant
        elif sign == "-":
            after[one] = letters - meant
        else:
            after[one] = meant
    return closed(after)


def table(text):
    """The table of point 4, told off the uniform modes."""
    def told(letter, form):
        at = LETTERS.index(letter)
        patterns = []
        for number in UNIFORM:
            signs = f"{image(text, form)[number]:09b}"
            patterns.append(int(signs[at::3], 2))
        return tuple(patterns)
    return (told("r", "file"), told("w", "file"), told("x", "file"), told("x", "folder"))


@lru_cache(maxsize=None)
def clause_image(part, form):
    """What all modes become behind one clause."""
    sign = next(one for one in part if one in SIGNS)
    who, what = part.split(sign, 1)
    return [clause_done("ugo" if who == "a" else who, sign, what, number, form) for number in range(512)]


@lru_cache(maxsize=None)
def image(text, form):
    """What all modes become behind a change."""
    numbers = range(512)
    for part in text.split(","):
        made = clause_image(part, form)
        numbers = [made[number] for number in numbers]
    return list(numbers)


def cycle(made):
    """The least lead and period of an image, by trying every lead, and for it every period, in order."""
    powers = [list(range(512))]
    for _ in range(60):
        powers.append([made[number] for number in powers[-1]])
    for lead in range(30):
        for period in range(1, 31):
            if powers[lead] == powers[lead + period]:
                return (lead, period)
    raise AssertionError("no cycle")


def random_clause(chance):
    return chance.choice(WHOS + ["a"]) + chance.choice(SIGNS) + chance.choice(WHATS)


def random_change(chance, most=8):
    return ",".join(random_clause(chance) for _ in range(chance.randint(1, most)))
