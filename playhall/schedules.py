"""Schedules: how many sessions are started in each beat; and rings, which are repeated without end."""

from playhall.houseerrors import InvalidSchedule
from playhall.mixes import lowest


def first_lack(house, schedule):
    """The first beat and tool for which there is not enough, or None; raises InvalidSchedule."""
    _check_windows(house, schedule)
    return _lack_in(house, _uses(house, schedule, len(schedule) + house.horizon))


def schedule_totals(house, schedule):
    """The sums of both worths over all starts, and the number of windows; raises InvalidSchedule."""
    _check_windows(house, schedule)
    menu = house.menu
    started = [(session, times) for window in schedule for session, times in zip(menu, window)]
    return (
        sum([times * session.first for session, times in started]),
        sum([times * session.second for session, times in started]),
        len(schedule))


def ring_lack(house, ring):
    """The first beat and tool of a ring for which there is not enough, or None; raises InvalidSchedule."""
    _check_ring(house, ring)
    return _lack_in(house, _uses(house, ring, len(ring)))


def ring_mean(house, ring):
    """The mean of a ring; raises InvalidSchedule."""
    _check_ring(house, ring)
    return lowest(schedule_totals(house, ring))


def _check_ring(house, ring):
    if len(ring) == 0:
        raise InvalidSchedule(0)
    _check_windows(house, ring)


def _check_windows(house, schedule):
    count = len(house.menu)
    for beat, window in enumerate(schedule):
        if len(window) != count or any([times < 0 for times in window]):
            raise InvalidSchedule(beat)


def _uses(house, schedule, beats):
    """For each beat how much of each tool is used, if what comes after the last beat goes on with the first."""
    places = {tool: place for place, tool in enumerate(house.tools)}
    menu = house.menu
    uses = [[0 for _ in places] for _ in range(beats)]
    for start, window in enumerate(schedule):
        for session, times in zip(menu, window):
            for beat, tool, amount in session.needs:
                uses[(start + beat) % beats][places[tool]] += times * amount
    return uses


def _lack_in(house, uses):
    """The first beat and tool of which more is used than there is, or None."""
    tools, numbers = house.tools, house.numbers
    for beat, row in enumerate(uses):
        for tool, used, number in zip(tools, row, numbers):
            if used > number:
                return (beat, tool)
    return None
