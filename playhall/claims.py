"""Claimed records: records with claims about what is done so far."""

from playhall.classes import classes
from playhall.errors import BadEntry
from playhall.forcing import check_team, forced_ranks, targets_of
from playhall.positions import holds
from playhall.records import Record
from playhall.referee import settled, verdict, views_behind
from playhall.twins import ways_by_sign

CLAIMS = ("at", "goal", "class", "rank", "score", "report")


class Desk:
    """Judges claimed records of a game by a scoring."""

    def __init__(self, arena, scoring):
        self._arena = arena
        self._scoring = scoring
        self._classes = classes(arena)

    def judged(self, entries):
        """Yields `(index, truth)` for each claim, in order; raises BadEntry."""
        reading = Reading(self._arena, self._scoring, self._classes)
        for index, entry in enumerate(entries):
            if entry[0] in CLAIMS:
                yield (index, reading.is_true(entry))
            else:
                reading.enter_at(index, entry)

    def first_false(self, entries):
        """The index of the first false claim, or None; raises BadEntry."""
        for index, truth in self.judged(entries):
            if not truth:
                return index
        return None

    def full_record(self, entries, team):
        """The entries, each followed by true claims; raises NoPlayer, BadEntry."""
        check_team(self._arena.game, team)
        reading = Reading(self._arena, self._scoring, self._classes)
        full = []
        for index, entry in enumerate(entries):
            reading.enter_at(index, entry)
            full.append(tuple(entry))
            full.extend(reading.claims_with(tuple(team)))
        return full


class Reading:
    """A claimed record as far as it is read, and what was found out about it on the way."""

    def __init__(self, arena, scoring, numbers):
        self._arena = arena
        self._scoring = scoring
        # The class of each position.
        self._numbers = numbers
        self._sheet = Record(arena.game)
        self._ways = ways_by_sign(arena)
        # Each move that was done when a report was asked for last, and what may be the case behind its sign.
        self._trail = []
        self._ranks = {}

    def enter_at(self, index, entry):
        """Makes an entry; raises BadEntry with the index."""
        try:
            self._sheet.take([entry])
        except BadEntry as refusal:
            raise BadEntry(index) from refusal

    def claims_with(self, team):
        """The true claims that stand in a full record."""
        ranks = [("rank", goal, self._rank(goal, team), team) for goal, _ in self._arena.game.goals]
        return [("score", self._score()), ("report", self._report()), ("class", self._class()), *ranks]

    def is_true(self, claim):
        """Whether the claim is true here."""
        kind = claim[0]
        if kind == "at":
            return self._has(claim[1], claim[2])
        if kind == "goal":
            return self._knows_goal(claim[1]) and holds(self._arena.game, claim[1], self._sheet.position)
        if kind == "class":
            return claim[1] == self._class()
        if kind == "rank":
            return self._has_rank(claim[1], claim[2], tuple(claim[3]))
        if kind == "score":
            return claim[1] == self._score()
        return claim[1] == self._report()

    def _has(self, counter, value):
        places = self._arena.game.places
        return counter in places and self._sheet.position[places[counter]] == value

    def _has_rank(self, goal, rank, team):
        players = self._arena.game.players
        if not self._knows_goal(goal) or not all([player in players for player in team]):
            return False
        return self._rank(goal, team) == rank

    def _knows_goal(self, goal):
        return goal in [label for label, _ in self._arena.game.goals]

    def _number(self):
        return self._arena.number(self._sheet.position)

    def _class(self):
        return self._numbers[self._number()]

    def _score(self):
        return self._scoring.score(self._sheet.moves_done)

    def _rank(self, goal, team):
        if (goal, team) not in self._ranks:
            self._ranks[(goal, team)] = forced_ranks(self._arena, team, targets_of(self._arena, goal))
        return self._ranks[(goal, team)].get(self._number())

    def _report(self):
        clean, foul = verdict(self._present_views())
        if clean and foul:
            return "doubt"
        return "clean" if clean else "foul"

    def _present_views(self):
        """What may be the case behind the signs of the moves that are done."""
        play = self._sheet.moves_done
        known = 0
        while known < min(len(play), len(self._trail)) and self._trail[known][0] == play[known]:
            known += 1
        self._trail = self._trail[:known]
        views = self._trail[-1][1] if self._trail else settled(self._ways, [(0, False)])
        for name in play[known:]:
            sign = self._arena.game.move(name).sign
            views = views if sign is None else views_behind(self._ways, views, sign)
            self._trail.append((name, views))
        return views
