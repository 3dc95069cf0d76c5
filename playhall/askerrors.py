"""The errors of asking: rules, boxes, trees, and their answers."""

from playhall.errors import HallError


class AskError(HallError):
    """The base class of the errors of asking."""


class BadRule(AskError):
    """A part of a rule is invalid."""

    def __init__(self, part):
        super().__init__(f"invalid rule: {part}")
        self.part = part


class BadBox(AskError):
    """The sides of a box are invalid, or the box does not belong to a rule."""


class BadTurn(AskError):
    """An answer of a turn is refused."""

    def __init__(self, index):
        super().__init__(f"answer {index} of the turn is refused")
        self.index = index


class BadTreeLine(AskError):
    """A line of the text of a tree is refused."""

    def __init__(self, line):
        super().__init__(f"line {line} is refused")
        self.line = line


class BadTree(AskError):
    """A form is not the form of a tree."""

    def __init__(self, path):
        super().__init__(f"invalid form at {path}")
        self.path = path


class BadAnswer(AskError):
    """An answer is refused."""

    def __init__(self, path):
        super().__init__(f"the answer at {path} is refused")
        self.path = path
