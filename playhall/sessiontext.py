"""Sessions as lines of text."""

from playhall.houseerrors import InvalidLine
from playhall.names import is_name, is_number, is_signed
from playhall.sessions import Session

_FEWEST_WORDS = 4


def write_session(session):
    """The line of a session."""
    needs = [_need_word(beat, tool, amount) for beat, tool, amount in session.needs]
    return " ".join([session.name, str(session.first), str(session.second), *needs])


def _need_word(beat, tool, amount):
    return f"{tool}@{beat}" if amount == 1 else f"{tool}@{beat}x{amount}"


def read_session(line):
    """The session that the line writes; raises InvalidLine."""
    words = line.split(" ")
    for index, word in enumerate(words):
        if not _is_valid(index, word):
            raise InvalidLine(index)
    if len(words) < _FEWEST_WORDS:
        raise InvalidLine(len(words))
    needs = [_need_of(word) for word in words[3:]]
    return Session(words[0], needs, first=int(words[1]), second=int(words[2]))


def _is_valid(index, word):
    """Whether the word may stand at this place."""
    if index == 0:
        return is_name(word)
    if index < 3:
        return is_signed(word)
    return _need_of(word) is not None


def _need_of(word):
    """The need that a word writes, or None."""
    tool, _, rest = word.partition("@")
    beat, times, amount = rest.partition("x")
    if not is_name(tool) or not is_number(beat):
        return None
    if times == "":
        return (int(beat), tool, 1)
    return (int(beat), tool, int(amount)) if is_number(amount) and amount != "0" else None
