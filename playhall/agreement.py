"""Whether two scorings agree on all plays of a game, and papers by which anybody can check it."""

from playhall.spans import span_of, spans, widened


def basis_plays(arena, scoring, other):
    """Basis plays: for each position plays whose vectors span those of all plays to it."""
    plays = [[] for _ in range(arena.size)]
    for number, play, _ in basis_entries(arena, scoring, other):
        plays[number].append(list(play))
    return plays


def parting_score(arena, scoring, other):
    """A shortest legal play with different scores, or None if the scorings agree."""
    # The basis plays up to a length span the vectors of all plays up to this length, so the
    # first of them with different scores is a shortest one.
    for _, play, values in basis_entries(arena, scoring, other):
        if not _has_equal_scores(scoring, other, values):
            return list(play)
    return None


def basis_entries(arena, scoring, other):
    """Yields `(number, play, values)` for basis plays, shorter ones first: the number of the
    position to which the play leads, the play, and the values of both scorings."""
    ways = arena.ways
    rows = [[] for _ in ways]
    values = (scoring.start, other.start)
    rows[0] = widened([], _vector(values))
    entries = [(0, (), values)]
    at = 0
    while at < len(entries):
        number, play, values = entries[at]
        yield entries[at]
        new = []
        for name, to in ways[number]:
            later = _values_after(scoring, other, values, name)
            wider = widened(rows[to], _vector(later))
            if len(wider) > len(rows[to]):
                rows[to] = wider
                new.append((to, (*play, name), later))
        entries.extend(new)
        at += 1


def check_score_paper(arena, scoring, other, plays):
    """Whether the list with one list of plays for each position is a score paper."""
    ways = arena.ways
    if len(plays) != len(ways):
        return False
    named = [dict(row) for row in ways]
    for number, listed in enumerate(plays):
        if not all([_end_number(named, play) == number for play in listed]):
            return False
    values = [[(scoring.values_of(play), other.values_of(play)) for play in listed] for listed in plays]
    if not all([_has_equal_scores(scoring, other, pair) for row in values for pair in row]):
        return False
    rows = [span_of([_vector(pair) for pair in row]) for row in values]
    if not spans(rows[0], _vector((scoring.start, other.start))):
        return False
    return all([spans(rows[to], _vector(_values_after(scoring, other, pair, name)))
                for row, behind in zip(values, ways) for pair in row for name, to in behind])


def _end_number(named, play):
    """The number of the position to which the play leads, or None if it is not legal."""
    number = 0
    for name in play:
        number = named[number].get(name)
        if number is None:
            return None
    return number


def _values_after(scoring, other, values, name):
    return (scoring.values_after(values[0], name), other.values_after(values[1], name))


def _has_equal_scores(scoring, other, values):
    return scoring.value(values[0]) == other.value(values[1])


def _vector(values):
    return (1, *values[0], *values[1])
