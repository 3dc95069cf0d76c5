"""Mixes: pairs of mean worths per beat, written as three numbers."""

from playhall.houseerrors import InvalidMix
from playhall.linear import primitive


def lowest(mix):
    """The mix in lowest terms; raises InvalidMix."""
    if mix[2] < 1:
        raise InvalidMix(mix)
    return tuple(primitive(mix))
