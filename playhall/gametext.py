"""The texts of games."""

from playhall.games import Game
from playhall.lines import lines_of
from playhall.moves import Move
from playhall.names import is_number

KINDS = ("counter", "move", "goal")
BEHIND_NEEDS = ("do", "show", "foul")
BEHIND_CHANGES = ("show", "foul")


def write_game(game):
    """The text of a game."""
    lines = [" ".join(["players", *game.players])]
    for label, top, start in zip(game.counters, game.tops, game.start):
        lines.append(f"counter {label} {top} {start}")
    lines.extend([_move_line(move) for move in game.moves])
    lines.extend([" ".join(["goal", label, *_need_words(needs)]) for label, needs in game.goals])
    return "\n".join(lines)


def _move_line(move):
    words = ["move", move.name, move.player, *_need_words(move.needs)]
    if move.changes:
        words.extend(["do", *[_change_word(counter, amount) for counter, amount in move.changes]])
    if move.sign is not None:
        words.extend(["show", move.sign])
    if move.foul:
        words.append("foul")
    return " ".join(words)


def _need_words(needs):
    words = ["if"] if needs else []
    for counter, low, high in needs:
        if low == high:
            words.append(f"{counter}={low}")
        else:
            words.extend([f"{counter}>={low}"] if low is not None else [])
            words.extend([f"{counter}<={high}"] if high is not None else [])
    return words


def _change_word(counter, amount):
    return f"{counter}+{amount}" if amount > 0 else f"{counter}-{-amount}"


def read_game(text):
    """The game with this text; raises BadLine."""
    lines = lines_of(text)
    players = _read_players(lines[0])
    # Each dict is ordered and tells the labels that are known so far.
    counters, moves, goals = {}, {}, {}
    first_kind = 0
    for line in lines[1:]:
        kind = line.member(0, KINDS[first_kind:])
        first_kind = KINDS.index(kind)
        if kind == "counter":
            label, top, start = _read_counter(line, counters)
            counters[label] = (label, top, start)
        elif kind == "move":
            move = _read_move(line, players, counters, moves)
            moves[move.name] = move
        else:
            label, needs = _read_goal(line, counters, goals)
            goals[label] = (label, needs)
    return Game(players, list(counters.values()), list(moves.values()), list(goals.values()))


def _read_players(line):
    line.member(0, ("players",))
    players = [line.label(1)]
    for index in range(2, len(line.words)):
        players.append(line.label(index, players))
    return players


def _read_counter(line, counters):
    label = line.label(1, counters)
    top = line.natural(2)
    start = line.natural(3)
    line.demand(3, start <= top)
    line.finish(4)
    return label, top, start


def _read_move(line, players, counters, moves):
    name = line.label(1, moves)
    player = line.member(2, players)
    at = 3
    needs, changes, sign = [], [], None
    if line.at(at) == "if":
        needs = _read_all(line, at + 1, _need_of, counters, BEHIND_NEEDS)
        at += 1 + len(needs)
    if line.at(at) == "do":
        changes = _read_all(line, at + 1, _change_of, counters, BEHIND_CHANGES)
        at += 1 + len(changes)
    if line.at(at) == "show":
        sign = line.label(at + 1)
        at += 2
    foul = line.at(at) == "foul"
    line.finish(at + 1 if foul else at)
    return Move(name, player, needs, changes, sign=sign, foul=foul)


def _read_goal(line, counters, goals):
    label = line.label(1, goals)
    if line.at(2) != "if":
        line.finish(2)
        return label, []
    return label, _read_all(line, 3, _need_of, counters, ())


def _read_all(line, first, entry_of, counters, behind):
    """One or more needs or changes from a word on, up to one of the words that may stand behind them."""
    entries = []
    at = first
    while at == first or not (at == len(line.words) or line.at(at) in behind):
        entry = entry_of(line.at(at))
        line.demand(at, entry is not None and entry[0] in counters)
        entries.append(entry)
        at += 1
    return entries


def _need_of(word):
    """The need that a word writes, or None; the counter is not judged."""
    left, _, right = word.partition("=")
    if not is_number(right):
        return None
    limit = int(right)
    if left.endswith(">"):
        return (left[:-1], limit, None)
    if left.endswith("<"):
        return (left[:-1], None, limit)
    return (left, limit, limit)


def _change_of(word):
    """The change that a word writes, or None; the counter is not judged."""
    for sign, factor in (("+", 1), ("-", -1)):
        left, _, right = word.partition(sign)
        if is_number(right) and right != "0":
            return (left, factor * int(right))
    return None
