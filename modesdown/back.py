"""What leads a command back to where it would have come, and the least row of a menu for which something is true."""

from modesdown.alike import verdict_on
from modesdown.commands import Row
from modesdown.kinds import told_kind
from modesdown.wants import LedBack


def leads_back(row, more, command, kind=None, most=400):
    """Whether behind a row and more commands a command comes wherever it would have come ahead of them."""
    whole = row + more + Row(command)
    return verdict_on(LedBack(told_kind(kind), Row(command), whole), most)


def least_row(menu, asks, longest):
    """The indexes of the first row of a menu whose verdict is true, this verdict, and what was asked ahead of it."""
    ahead = []
    level = [()]
    for many in range(longest + 1):
        if many > 0:
            level = [indexes + (at,) for indexes in level for at in range(len(menu))]
        for indexes in level:
            commands = [menu[at] for at in indexes]
            verdict = asks(Row(*commands))
            if verdict:
                return (indexes, verdict, ahead)
            ahead.append((indexes, verdict))
    return (None, None, ahead)
