"""Needs `(counter, low, high)` of moves and goals."""

from playhall.names import is_label


def is_need(need):
    """Whether a need is valid as it is passed."""
    counter, low, high = need
    if not is_label(counter) or (low is None and high is None):
        return False
    return _is_limit(low) and _is_limit(high)


def _is_limit(limit):
    return limit is None or limit >= 0


def merged_needs(needs):
    """One need for each counter, in ascending order of the counters."""
    limits = {}
    for counter, low, high in needs:
        old_low, old_high = limits.get(counter, (None, None))
        lows = [limit for limit in (old_low, low) if limit is not None]
        highs = [limit for limit in (old_high, high) if limit is not None]
        limits[counter] = (max(lows, default=None), min(highs, default=None))
    return tuple([(counter, *limits[counter]) for counter in sorted(limits)])
