"""Far rounds: what one command does that is done to a tree very many times."""

from modesdown.checks import is_whole
from modesdown.errors import BadBeat
from modesdown.modes import Mode
from modesdown.paths import joined, names_in
from modesdown.words import left_by


class Beat:
    """Which comings to a folder go on to an entry below it. It never changes."""

    def __init__(self, lead, period, answers):
        if not is_whole(lead) or lead < 0:
            raise BadBeat("lead")
        if not is_whole(period) or period < 1:
            raise BadBeat("period")
        if not isinstance(answers, tuple) or len(answers) != lead + period:
            raise BadBeat("answers")
        if not all([isinstance(answer, bool) for answer in answers]):
            raise BadBeat("answers")
        self._lead = lead
        self._period = period
        self._answers = answers

    @property
    def lead(self):
        return self._lead

    @property
    def period(self):
        return self._period

    @property
    def answers(self):
        return self._answers

    def __call__(self, c):
        """Whether this coming goes on."""
        return self._answers[place_of(c - 1, self._lead, self._period)]

    def through(self, c):
        """How many of the first comings go on."""
        if c <= self._lead:
            return sum(self._answers[:c])
        turns, rest = divmod(c - self._lead, self._period)
        again = self._answers[self._lead:]
        return sum(self._answers[:self._lead]) + turns * sum(again) + sum(again[:rest])

    def nth(self, k):
        """The number of the coming that is the k-th one to go on, or None."""
        going = [at + 1 for at, answer in enumerate(self._answers) if answer]
        again = [c for c in going if c > self._lead]
        if k <= len(going):
            return going[k - 1]
        if again == []:
            return None
        turns, at = divmod(k - 1 - (len(going) - len(again)), len(again))
        return again[at] + turns * self._period

    def __eq__(self, other):
        return (
            isinstance(other, Beat)
            and self._lead == other._lead
            and self._period == other._period
            and self._answers == other._answers
        )


def beats(tree, command, path):
    """The beats of an entry's beginnings, from the first name to the entry itself."""
    return [beat_below(command, above, folder, name) for above, folder, name in steps_to(tree, path)]


def comings(tree, command, path, rounds):
    """How many of the rounds come to an entry."""
    come = rounds
    for beat in beats(tree, command, path):
        come = beat.through(come)
    return come


def round_of(tree, command, path, k):
    """The round that is the k-th one to come to an entry, or None."""
    told = beats(tree, command, path)
    coming = k
    for beat in told[::-1]:
        coming = beat.nth(coming)
        if coming is None:
            return None
    return coming


def far(tree, command, rounds):
    """A new tree: the one behind so many rounds."""
    made = tree.copy()
    come = {"": rounds}
    pairs = list(tree.entries())
    for path, entry in pairs:
        made[path] = mode_behind(command, path, entry, come[path])
        if entry.form == "folder":
            for name in entry.names():
                beat = beat_below(command, path, entry, name)
                come[joined(path, name)] = beat.through(come[path])
    return made


def far_mode(tree, command, path, rounds):
    """The Mode of an entry behind so many rounds."""
    entry = tree.entry(path)
    return Mode(mode_behind(command, path, entry, comings(tree, command, path, rounds)))


def shows_comings(tree, command, path, steps, rounds, number):
    """Whether these beats, which need not be the shortest ones, show that so many of the rounds come to an entry."""
    above = steps_to(tree, path)
    if not isinstance(steps, (list, tuple)) or len(steps) != len(above):
        return False
    come = rounds
    for beat, (place, folder, name) in zip(steps, above):
        if not isinstance(beat, Beat) or not is_beat_of(beat, command, place, folder, name):
            return False
        come = beat.through(come)
    return is_whole(number) and number == come


def place_of(at, lead, period):
    """Where what stands at an index is found among the first lead + period of what goes round."""
    return at if at < lead else lead + (at - lead) % period


def is_inside(command, path):
    """Whether an entry with this path is inside."""
    start = names_in(command.start)
    return names_in(path)[:len(start)] == start


def leads_on(command, path, name):
    """Whether a folder is on the way, and this is the next name of the start."""
    names = names_in(path) + [name]
    return names_in(command.start)[:len(names)] == names


def course_of(command, path, entry):
    """The modes of an entry behind no coming, one, two and so on, and the lead; the last one is the one behind it."""
    numbers = [entry.mode.number]
    if not is_inside(command, path) or not command.may(entry):
        return (numbers * 2, 0)
    while True:
        later = left_by(command, numbers[-1], entry.form)
        if later in numbers:
            return (numbers + [later], numbers.index(later))
        numbers.append(later)


def answers_below(command, path, folder, name, numbers):
    """Which comings go on to a name, one by one, where the modes behind no coming, one and so on are told."""
    user = command.user
    if is_inside(command, path):
        seen = numbers[1:] if command.order == "first" else numbers[:-1]
        return tuple([user.lists(number, folder.owner, folder.group) for number in seen])
    goes = leads_on(command, path, name) and user.passes(folder.mode, folder.owner, folder.group)
    return (goes,) * (len(numbers) - 1)


def beat_below(command, path, folder, name):
    """The beat of the entry with this name below a folder."""
    numbers, lead = course_of(command, path, folder)
    answers = answers_below(command, path, folder, name, numbers)
    return Beat(lead, len(answers) - lead, answers)


def is_beat_of(beat, command, path, folder, name):
    """Whether a beat, perhaps with a lead and a period that are not the least ones, is that of the entry below."""
    numbers = [folder.mode.number]
    changes = is_inside(command, path) and command.may(folder)
    for _ in beat.answers:
        numbers.append(left_by(command, numbers[-1], "folder") if changes else numbers[-1])
    if numbers[beat.lead] != numbers[-1]:
        return False
    return beat.answers == answers_below(command, path, folder, name, numbers)


def mode_behind(command, path, entry, come):
    """The number of the mode of an entry behind so many comings."""
    numbers, lead = course_of(command, path, entry)
    return numbers[place_of(come, lead, len(numbers) - 1 - lead)]


def steps_to(tree, path):
    """The tuples (path, folder, name) of the folders above an entry and the next names, from the top."""
    tree.entry(path)
    above = ""
    folder = tree.entry("")
    found = []
    for name in names_in(path):
        found.append((above, folder, name))
        above = joined(above, name)
        folder = folder[name]
    return found
