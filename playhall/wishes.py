"""Wishes: mixes that a house keeps, and the schedules that keep them."""

from playhall.linear import primitive
from playhall.mixes import lowest
from playhall.regions import region_of, region_with_rings
from playhall.schedules import schedule_totals


def portions(house, mix):
    """One to three rings with numbers of times, which together make the mix; raises InvalidMix, Barred."""
    region, rings = region_with_rings(house)
    chosen = [(rings[index], weight) for index, weight in region.weights(mix)]
    # A ring of n windows brings n times its mean.
    beats = [schedule_totals(house, ring)[2] for ring, _ in chosen]
    together = 1
    for count in beats:
        together = together * count
    times = primitive([weight * (together // count) for (_, weight), count in zip(chosen, beats)])
    return [(ring, number) for (ring, _), number in zip(chosen, times)]


def plan(house, mix, blocks):
    """Yields the windows of the first blocks of the plan; raises InvalidMix, Barred."""
    parts = portions(house, mix)
    still = [tuple([0 for _ in house.menu]) for _ in range(house.horizon - 1)]
    for block in range(1, blocks + 1):
        for ring, times in parts:
            for _ in range(block * times):
                yield from ring
            yield from still


def parting_mix(region, other):
    """The first corner of the region that does not belong to the other one, or None."""
    for corner in region.corners:
        if corner not in other:
            return corner
    return None


def least_number(house, tool, mix, *, most=3):
    """The least number of the tool with which the house keeps the mix, or None; raises UnknownTool, InvalidMix."""
    house.number_of(tool)
    wished = lowest(mix)
    for number in range(most + 1):
        if wished in region_of(house.with_number(tool, number)):
            return number
    return None
