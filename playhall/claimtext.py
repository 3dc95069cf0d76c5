"""The texts of claimed records."""

from playhall.claims import CLAIMS
from playhall.lines import lines_of
from playhall.recordtext import entry_line, read_entry

_REPORTS = ("clean", "foul", "doubt")
_NO_RANK = "never"


def write_claims(entries):
    """The text of a claimed record."""
    return "\n".join([_claim_line(entry) if entry[0] in CLAIMS else entry_line(entry) for entry in entries])


def _claim_line(claim):
    if claim[0] == "rank":
        _, goal, rank, team = claim
        return " ".join(["claim", "rank", goal, _NO_RANK if rank is None else str(rank), *team])
    return " ".join(["claim", *[str(part) for part in claim]])


def read_claims(text):
    """The claimed record with this text; raises BadLine."""
    if text == "":
        return []
    return [_read_claim(line) if line.at(0) == "claim" else read_entry(line) for line in lines_of(text)]


def _read_claim(line):
    kind = line.member(1, CLAIMS)
    if kind == "rank":
        return _read_rank(line)
    if kind == "at":
        claim = (kind, line.label(2), line.signed(3))
    elif kind == "goal":
        claim = (kind, line.label(2))
    elif kind == "class":
        claim = (kind, line.natural(2))
    elif kind == "score":
        claim = (kind, line.signed(2))
    else:
        claim = (kind, line.member(2, _REPORTS))
    line.finish(len(claim) + 1)
    return claim


def _read_rank(line):
    goal = line.label(2)
    rank = None if line.at(3) == _NO_RANK else line.natural(3)
    return ("rank", goal, rank, tuple([line.label(index) for index in range(4, len(line.words))]))
