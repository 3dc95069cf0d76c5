"""Scorings: tallies that moves change, and a score."""

from playhall.errors import BadScoring
from playhall.names import is_label


class Scoring:
    """Tallies, rules by which moves change them, and the form of the score."""

    def __init__(self, tallies, rules, score):
        _refuse_bad("tallies", _bad_tally(tallies))
        places = {name: place for place, (name, _) in enumerate(tallies)}
        _refuse_bad("rules", _bad_rule(rules, places))
        _refuse_bad("score", _bad_term(score, places))
        self.tallies = tuple(places)
        self.start = tuple([start for _, start in tallies])
        self.rules = tuple([(move, tally, _merged_form(form)) for move, tally, form in rules])
        self.form = _merged_form(score)
        self._forms = {(move, tally): form for move, tally, form in self.rules}

    def __eq__(self, other):
        return (isinstance(other, Scoring) and self.tallies == other.tallies and self.start == other.start
                and self.rules == other.rules and self.form == other.form)

    def values_after(self, values, move):
        """The values after a move."""
        known = dict(zip(self.tallies, values))
        return tuple([_worth(self._forms.get((move, tally), ((1, tally),)), known) for tally in self.tallies])

    def value(self, values):
        """The value of the score for these values."""
        return _worth(self.form, dict(zip(self.tallies, values)))

    def values_of(self, play):
        """The values of a play."""
        values = self.start
        for move in play:
            values = self.values_after(values, move)
        return values

    def score(self, play):
        """The score of a play."""
        return self.value(self.values_of(play))


def _refuse_bad(part, index):
    if index is not None:
        raise BadScoring(part, index)


def _bad_tally(tallies):
    """The index of the first invalid tally, or None."""
    seen = {}
    for index, (name, _) in enumerate(tallies):
        if name in seen or not is_label(name):
            return index
        seen[name] = True
    return None


def _bad_rule(rules, tallies):
    """The index of the first invalid rule, or None."""
    seen = {}
    for index, (move, tally, form) in enumerate(rules):
        if not is_label(move) or tally not in tallies or (move, tally) in seen:
            return index
        if _bad_term(form, tallies) is not None:
            return index
        seen[(move, tally)] = True
    return None


def _bad_term(form, tallies):
    """The index of the first invalid term of a form, or None."""
    for index, (_, tally) in enumerate(form):
        if tally is not None and tally not in tallies:
            return index
    return None


def _merged_form(form):
    """One term for each tally, in ascending order, None last; sums of 0 are left out."""
    sums = {}
    for factor, tally in form:
        sums[tally] = sums.get(tally, 0) + factor
    order = [*sorted([tally for tally in sums if tally is not None]), None]
    return tuple([(sums[tally], tally) for tally in order if sums.get(tally, 0) != 0])


def _worth(form, values):
    """The value of a form, where `values` is a dict from the tallies to their values."""
    return sum([factor if tally is None else factor * values[tally] for factor, tally in form])
