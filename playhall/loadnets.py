"""The net of the reachable loads of a house, and the best rings in it."""

from playhall.loads import all_loads, steps


class LoadNet:
    """The reachable loads of a house, in such an order that starts lead to later ones. So the empty load is the first
    one. `starts` lists for each load pairs of a session and the number of the load behind its start, `beats` the
    number of the load behind a beat. `sessions` is the number of the sessions."""

    def __init__(self, house):
        self.loads = sorted(all_loads(house), key=lambda load: sum([sum(row) for row in load]))
        numbers = {load: number for number, load in enumerate(self.loads)}
        self.sessions = len(house.menu)
        self.starts = []
        self.beats = []
        for load in self.loads:
            ways = [(index, numbers[behind]) for index, behind in steps(house, load)]
            self.starts.append(ways[:-1])
            self.beats.append(ways[-1][1])


class Level:
    """The best walks from the empty load with some number of beats. `sums` has the greatest sum for each load right
    after the last beat, and `sources` the load before this beat. `worths` has the greatest sum for each load after
    further starts, and `lasts` the load before the last of these starts and its session."""

    def __init__(self, sums, sources, worths, lasts):
        self.sums = sums
        self.sources = sources
        self.worths = worths
        self.lasts = lasts


def best_ring_in(net, gains):
    """A ring with the greatest mean, where each start counts the gain of its session."""
    # By Karp's theorem: as many beats as there are loads right after beats show the greatest mean.
    levels = [_with_starts(net, gains, {0: 0}, {})]
    for _ in range(len(set(net.beats))):
        levels.append(_next_level(net, gains, levels[-1]))
    best, mean = None, None
    for load in levels[-1].sums:
        found = _least_mean(levels, load)
        if mean is None or found[0] * mean[1] > mean[0] * found[1]:
            best, mean = load, found
    # Each round of a best walk to this load has the greatest mean.
    return _round_to(net, levels, best)


def _next_level(net, gains, level):
    sums, sources = {}, {}
    for load, worth in level.worths.items():
        behind = net.beats[load]
        if behind not in sums or worth > sums[behind]:
            sums[behind] = worth
            sources[behind] = load
    return _with_starts(net, gains, sums, sources)


def _with_starts(net, gains, sums, sources):
    """The level with these sums right after its last beat."""
    worths = dict(sums)
    lasts = {}
    for load, ways in enumerate(net.starts):
        if load in worths:
            for index, behind in ways:
                worth = worths[load] + gains[index]
                if behind not in worths or worth > worths[behind]:
                    worths[behind] = worth
                    lasts[behind] = (load, index)
    return Level(sums, sources, worths, lasts)


def _least_mean(levels, load):
    """The least mean from a lesser number of beats on to the last level, as a pair of a sum and beats."""
    least = None
    total = levels[-1].sums[load]
    for number, level in enumerate(levels[:-1]):
        if load in level.sums:
            found = (total - level.sums[load], len(levels) - 1 - number)
            if least is None or found[0] * least[1] < least[0] * found[1]:
                least = found
    return least


def _round_to(net, levels, load):
    """A part of the best walk to the load at the last level that leads from a load back to it, in windows."""
    seen = {load: 0}
    windows = []
    for number in reversed(range(len(levels) - 1)):
        started = []
        load = levels[number + 1].sources[load]
        while load in levels[number].lasts:
            load, index = levels[number].lasts[load]
            started.append(index)
        windows.append(window_of(net, started))
        if load in seen:
            return windows[seen[load]:][::-1]
        seen[load] = len(windows)


def window_of(net, started):
    """The window in which these sessions are started."""
    return tuple([started.count(index) for index in range(net.sessions)])
