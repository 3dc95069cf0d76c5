"""Texts are read line by line and word by word; each word is judged when it is reached."""

from playhall.errors import BadLine
from playhall.names import is_label, is_number, is_signed


class Line:
    """The words of one line."""

    def __init__(self, place, text):
        self.place = place
        self.words = tuple(text.split(" "))

    def at(self, index):
        """The word with this index. Behind the last word it is the empty one, which is never valid."""
        return self.words[index] if index < len(self.words) else ""

    def demand(self, index, valid):
        """Refuses the word with this index if it is not valid."""
        if not valid:
            raise BadLine(self.place, index)

    def finish(self, index):
        """Refuses the word with this index if there is one."""
        self.demand(index, index >= len(self.words))

    def member(self, index, known):
        """The word with this index, which must be one of the known ones."""
        self.demand(index, self.at(index) in known)
        return self.at(index)

    def label(self, index, known=()):
        """The word with this index, which must be a label that is not one of the known ones."""
        self.demand(index, is_label(self.at(index)) and self.at(index) not in known)
        return self.at(index)

    def natural(self, index):
        """The number that is the word with this index."""
        self.demand(index, is_number(self.at(index)))
        return int(self.at(index))

    def signed(self, index):
        """The number that is the word with this index, which may have a minus."""
        self.demand(index, is_signed(self.at(index)))
        return int(self.at(index))


def lines_of(text):
    """The lines of a text."""
    return [Line(index + 1, row) for index, row in enumerate(text.split("\n"))]
