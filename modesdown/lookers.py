"""Lookers: whether a paper, any value, shows the answer to a question about all trees."""

from modesdown.alike import Parted, row_exchanged
from modesdown.changes import FORMS
from modesdown.checks import is_name, is_whole_to
from modesdown.commands import Row
from modesdown.comparing import Comparison
from modesdown.kinds import told_kind
from modesdown.modes import Mode, number_of
from modesdown.questions import Question
from modesdown.standing import top_joint
from modesdown.stands import is_joint
from modesdown.trees import Tree
from modesdown.wants import EndsIn, LedBack, NeverLost


def is_closed(kind, rows, listed):
    """Whether a value is a tuple of joint stands of these rows that is closed."""
    if not isinstance(listed, tuple) or not all([is_joint(rows, joint) for joint in listed]):
        return False
    known = {}
    for joint in listed:
        known[joint] = True
    question = Question(told_kind(kind), rows)
    for joint in [top_joint(rows)] + list(listed):
        for there in question.next_to(joint):
            if there not in known:
                return False
    return len(known) == len(listed)


def is_chain(kind, chain):
    """Whether a value is a chain of 1 to 60 entries, all of the kind."""
    if not isinstance(chain, tuple) or not 1 <= len(chain) <= Tree.ENTRIES:
        return False
    if not all([is_link(link) for link in chain]):
        return False
    asked = told_kind(kind)
    for at, (name, form, mode, owner, group) in enumerate(chain):
        is_top = at == 0
        if (name == "") != is_top or not asked.lets(form, mode, owner, group):
            return False
        if form == "file" and (is_top or at < len(chain) - 1):
            return False
    return True


def shows_alike(one, other, paper, kind=None, mask=0o777):
    """Whether a paper shows that two rows are alike, or that they are not."""
    return shows(Comparison(told_kind(kind), one, other, number_of(mask), False), paper)


def shows_at_most(one, other, paper, kind=None, mask=0o777):
    """Whether a paper shows that one row is at most the other, or that it is not."""
    return shows(Comparison(told_kind(kind), one, other, number_of(mask), True), paper)


def shows_needless(row, index, paper, kind=None, mask=0o777):
    """Whether a paper shows that a row does the same without a command, or that it does not."""
    return shows_alike(row, row.without(index), paper, kind, mask)


def shows_exchanged(row, index, paper, kind=None, mask=0o777):
    """Whether a paper shows that a row does the same if two commands are exchanged, or that it does not."""
    return shows_alike(row, row_exchanged(row, index), paper, kind, mask)


def shows_never_lost(row, paper, kind=None):
    """Whether a paper shows that no command of a row is lost, or that one is."""
    return shows(NeverLost(told_kind(kind), row), paper)


def shows_ends_in(row, goal, paper, kind=None):
    """Whether a paper shows that a row ends in a goal, or that it does not."""
    return shows(EndsIn(told_kind(kind), row, goal), paper)


def shows_led_back(row, more, command, paper, kind=None):
    """Whether a paper shows that a command is led back behind a row by more commands, or that it is not."""
    whole = row + more + Row(command)
    return shows(LedBack(told_kind(kind), Row(command), whole), paper)


def shows(question, paper):
    """Whether a paper shows the answer to a question, whichever it is."""
    if not isinstance(paper, tuple) or len(paper) != 2:
        return False
    answer, shown = paper
    if answer == "yes":
        return is_closed(question._kind, question._rows, shown) and holds_at(question, shown)
    return answer == "no" and is_chain(question._kind, shown) and is_ended(question, shown)


def holds_at(question, listed):
    """Whether at the top's and at each of these joint stands all is as a question wants it."""
    if question.ending(top_joint(question._rows), "folder") is not None:
        return False
    return all([question.ending(joint, form) is None for joint in listed for form in FORMS])


def is_ended(question, chain):
    """Whether the last entry of a chain shows the contrary of what a question wants."""
    parted = Parted(chain)
    return question.ends(parted.as_tree(), "/".join([link[0] for link in chain[1:]]))


def is_link(value):
    """Whether a value is a tuple of a name, or the empty string, a form, the number of a mode, an owner and a group."""
    if not isinstance(value, tuple) or len(value) != 5:
        return False
    name, form, mode, owner, group = value
    if name != "" and not is_name(name):
        return False
    return form in FORMS and is_whole_to(mode, Mode.MOST) and is_name(owner) and is_name(group)
