"""The texts of lists of entries."""

from playhall.lines import lines_of


def write_entries(entries):
    """The text of a list of entries."""
    return "\n".join([entry_line(entry) for entry in entries])


def entry_line(entry):
    """The line of an entry."""
    words = list(entry[:-1])
    if entry[-1] != 1:
        words.append(str(entry[-1]))
    return " ".join(words)


def read_entries(text):
    """The list of entries with this text; raises BadLine."""
    if text == "":
        return []
    return [read_entry(line) for line in lines_of(text)]


def read_entry(line):
    """The entry of a line."""
    kind = line.member(0, ("play", "back", "forth"))
    if kind == "play":
        return (kind, line.label(1), _read_times(line, 2))
    return (kind, _read_times(line, 1))


def _read_times(line, index):
    """The number with which the line ends; it is 1 if it is left out."""
    if index == len(line.words):
        return 1
    times = line.natural(index)
    line.demand(index, times > 0)
    line.finish(index + 1)
    return times
