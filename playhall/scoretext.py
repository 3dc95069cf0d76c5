"""The texts of scorings."""

from playhall.errors import BadLine
from playhall.lines import lines_of
from playhall.names import is_number
from playhall.scorings import Scoring

KINDS = ("tally", "on", "score")


def write_scoring(scoring):
    """The text of a scoring."""
    lines = [f"tally {name} {start}" for name, start in zip(scoring.tallies, scoring.start)]
    lines.extend([f"on {move} {tally} {_form_words(form)}" for move, tally, form in scoring.rules])
    lines.append(f"score {_form_words(scoring.form)}")
    return "\n".join(lines)


def _form_words(form):
    if not form:
        return "+0"
    return " ".join([_term_word(factor, tally) for factor, tally in form])


def _term_word(factor, tally):
    number = f"{factor:+d}"
    return number if tally is None else f"{number}*{tally}"


def read_scoring(text):
    """The scoring with this text; raises BadLine."""
    lines = lines_of(text)
    # Each dict is ordered and tells what is known so far.
    tallies, rules = {}, {}
    form = None
    first_kind = 0
    for line in lines:
        line.demand(0, form is None)
        kind = line.member(0, KINDS[first_kind:])
        first_kind = KINDS.index(kind)
        if kind == "tally":
            name = line.label(1, tallies)
            tallies[name] = (name, line.signed(2))
            line.finish(3)
        elif kind == "on":
            move, tally, rule_form = _read_rule(line, tallies, rules)
            rules[(move, tally)] = (move, tally, rule_form)
        else:
            form = _read_form(line, 1, tallies)
    if form is None:
        raise BadLine(len(lines) + 1, 0)
    return Scoring(list(tallies.values()), list(rules.values()), form)


def _read_rule(line, tallies, rules):
    move = line.label(1)
    tally = line.member(2, tallies)
    line.demand(2, (move, tally) not in rules)
    return move, tally, _read_form(line, 3, tallies)


def _read_form(line, first, tallies):
    """The terms from a word on to the end of the line; there is at least one."""
    line.demand(first, first < len(line.words))
    return [_read_term(line, index, tallies) for index in range(first, len(line.words))]


def _read_term(line, index, tallies):
    word = line.at(index)
    number, star, tally = word[1:].partition("*")
    line.demand(index, word[:1] in ("+", "-") and is_number(number) and (star == "" or tally in tallies))
    factor = int(number) if word[0] == "+" else -int(number)
    return (factor, tally if star else None)
