"""Bounds that hold for a house, and the prices of its loads by which this can be checked."""

from playhall.arenas import traced
from playhall.houseerrors import Beaten
from playhall.loadnets import LoadNet, best_ring_in, window_of
from playhall.regions import gains_of
from playhall.schedules import schedule_totals


def price_list(house, bound):
    """The slack, and the price of each reachable load; raises Beaten."""
    net, prices = _priced(house, bound)
    return (max(0, prices[0] - bound[2]), dict(zip(net.loads, prices)))


def tight_schedule(house, bound):
    """A tight schedule; raises Beaten."""
    net, prices = _priced(house, bound)
    if prices[0] <= bound[2]:
        return []
    gains = gains_of(house, bound[0], bound[1])
    # A shortest way from the empty load whose steps count all that its price has.
    loads = [0]
    seen = {0: True}
    arrivals = [None]
    at = 0
    while prices[loads[at]] > 0:
        present = loads[at]
        new = []
        for index, behind in [*net.starts[present], (None, net.beats[present])]:
            gain = -bound[2] if index is None else gains[index]
            if gain + prices[behind] == prices[present] and behind not in seen:
                seen[behind] = True
                new.append(behind)
                arrivals.append((at, index))
        loads.extend(new)
        at += 1
    return _windows(net, traced(arrivals, at))


def _windows(net, moves):
    """The windows of a way, where None stands for a beat."""
    windows = []
    started = []
    for index in moves:
        if index is None:
            windows.append(window_of(net, started))
            started = []
        else:
            started.append(index)
    return [*windows, window_of(net, started)]


def _priced(house, bound):
    """The net of the loads, and their prices by their numbers."""
    a, b, c = bound
    net = LoadNet(house)
    gains = gains_of(house, a, b)
    ring = best_ring_in(net, gains)
    first, second, beats = schedule_totals(house, ring)
    if a * first + b * second > c * beats:
        raise Beaten(ring)
    prices = [0 for _ in net.loads]
    before = None
    # No round of steps counts more than 0, so this comes to an end.
    while prices != before:
        before = list(prices)
        for load in reversed(range(len(prices))):
            started = [gains[index] + prices[behind] for index, behind in net.starts[load]]
            prices[load] = max([0, prices[net.beats[load]] - c, *started])
    return net, prices
