"""Houses: tools, of each a number, and a menu of sessions."""

from playhall.houseerrors import InvalidHouse, UnknownTool
from playhall.names import is_name


class House:
    """Tools and a menu of sessions. Only the numbers of tools change, within blocks in which tools are closed."""

    def __init__(self, tools, menu):
        if not _are_tools(tools):
            raise InvalidHouse()
        self._tools = tuple([name for name, _ in tools])
        self._numbers = tuple([number for _, number in tools])
        self._menu = tuple(menu)
        for session in self._menu:
            for _, tool, _ in session.needs:
                self.number_of(tool)

    @property
    def tools(self):
        """The names of the tools."""
        return self._tools

    @property
    def numbers(self):
        """The present numbers of the tools."""
        return self._numbers

    @property
    def menu(self):
        """The sessions."""
        return list(self._menu)

    @property
    def horizon(self):
        """The greatest length of a session, or 1 if there is none."""
        return max([session.duration for session in self._menu], default=1)

    def number_of(self, tool):
        """The present number of the tool; raises UnknownTool."""
        if tool not in self._tools:
            raise UnknownTool(tool)
        return self._numbers[self._tools.index(tool)]

    def with_number(self, tool, number):
        """A house with another number of the tool; raises UnknownTool, InvalidHouse."""
        self.number_of(tool)
        return House(list(zip(self._tools, self._changed(tool, number))), self._menu)

    def with_session(self, session):
        """A house with one more session; raises UnknownTool."""
        return House(list(zip(self._tools, self._numbers)), [*self._menu, session])

    def closed(self, tool):
        """A block in which the number of the tool is 0; raises UnknownTool."""
        self.number_of(tool)
        return Closing(self, tool)

    def _changed(self, tool, number):
        """The numbers with another one of the tool."""
        return tuple([number if name == tool else old for name, old in zip(self._tools, self._numbers)])


def _are_tools(tools):
    """Whether the names and numbers of the tools are valid."""
    names = [name for name, _ in tools]
    return len(set(names)) == len(names) and all([is_name(name) and number >= 0 for name, number in tools])


class Before:
    """The numbers of a house when a block was entered, and what was kept for the blocks around it."""

    def __init__(self, numbers, outer):
        self.kept = numbers
        self.outer = outer


class Closing:
    """A block in which a tool of a house is closed."""

    def __init__(self, house, tool):
        self._house = house
        self._tool = tool
        self._before = None

    def __enter__(self):
        self._before = Before(self._house._numbers, self._before)
        self._house._numbers = self._house._changed(self._tool, 0)
        return self._house

    def __exit__(self, kind, value, trace):
        self._house._numbers = self._before.kept
        self._before = self._before.outer


def ask_closed(house, tool, question):
    """What the question returns for the house while the tool is closed; raises UnknownTool."""
    with house.closed(tool) as held:
        return question(held)
