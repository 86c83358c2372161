"""What holds for one row on all trees of a kind: that it is never lost, where it ends, and when it settles."""

from modesdown.alike import alike, verdict_on
from modesdown.commands import Row
from modesdown.errors import TooMany
from modesdown.kinds import told_kind
from modesdown.wants import EndsIn, NeverLost


def never_lost(row, kind=None, most=400):
    """Whether no command of a row is lost at any entry of any tree of the kind."""
    return verdict_on(NeverLost(told_kind(kind), row), most)


def ends_in(row, goal, kind=None, most=400):
    """Whether behind a row each entry of each tree of the kind is of the goal."""
    return verdict_on(EndsIn(told_kind(kind), row, goal), most)


def settles(row, rounds, kind=None, most=400):
    """The least number of rounds behind which a row settles, or None, and the verdicts that tell it."""
    if len(row) * (rounds + 1) > Row.MOST:
        raise TooMany(Row.MOST)
    verdicts = []
    for k in range(rounds + 1):
        verdict = alike(row * k, row * (k + 1), kind, most=most)
        verdicts.append(verdict)
        if verdict:
            return (k, verdicts)
    return (None, verdicts)
