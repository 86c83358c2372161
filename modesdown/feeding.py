"""Blocks of folders that are fed with words of a row, round by round."""

from modesdown.words import Passage


class Feeder:
    """A row, all of whose starts are the top, and what folders make of its words, each reckoned once."""

    def __init__(self, row):
        self._row = row
        self._whole = tuple(range(len(row)))
        self._known = {}

    def fed_to(self, folder, word):
        """A folder (mode as an integer, owner, group) behind the commands of a word, and the word that goes on."""
        key = (folder, word)
        if key not in self._known:
            mode, owner, group = folder
            stand = tuple([0 if at in word else -1 for at in self._whole])
            passage = Passage(self._row, stand, mode, owner, group)
            yielded = tuple([at for at, told, _ in passage.steps() if told == "on"])
            self._known[key] = ((passage.after, owner, group), yielded)
        return self._known[key]

    def fed_once(self, folders, word):
        """A block behind one round, and its yield."""
        behind = []
        for folder in folders:
            after, word = self.fed_to(folder, word)
            behind.append(after)
        return (tuple(behind), word)

    def delay(self, folders):
        """The number of rounds by which a block delays, or None."""
        late = False
        empty = 0
        seen = {}
        # A block that is as it was at the same time, ahead of the first yield or behind it, goes on as it did.
        while (folders, late) not in seen:
            seen[(folders, late)] = True
            folders, word = self.fed_once(folders, self._whole)
            if word == self._whole:
                late = True
            elif word != () or late:
                return None
            else:
                empty = empty + 1
        return empty if late and empty > 0 else None
