"""The regions of houses: which mixes they can keep up."""

from playhall.loadnets import LoadNet, best_ring_in
from playhall.polygons import Region
from playhall.schedules import ring_mean


def best_ring(house, a, b):
    """A ring with the greatest a * x + b * y of all points (x, y) of the region."""
    return best_ring_in(LoadNet(house), gains_of(house, a, b))


def gains_of(house, a, b):
    """What the start of each session counts."""
    return [a * session.first + b * session.second for session in house.menu]


def region_of(house):
    """The region of the house."""
    return region_with_rings(house)[0]


def corner_rings(house):
    """A ring for each corner of the region."""
    return region_with_rings(house)[1]


def region_with_rings(house):
    """The region, and a ring for each of its corners."""
    net = LoadNet(house)
    rings = {(0, 0, 1): [tuple([0 for _ in house.menu])]}
    region = Region(list(rings))
    # The edges that no ring beats.
    final = {}
    waiting = region.edges
    while waiting:
        edge = waiting[0]
        ring = best_ring_in(net, gains_of(house, edge[0], edge[1]))
        mean = ring_mean(house, ring)
        if edge[0] * mean[0] + edge[1] * mean[1] > edge[2] * mean[2]:
            rings[mean] = ring
            region = Region(list(rings))
        else:
            final[edge] = True
        waiting = [edge for edge in region.edges if edge not in final]
    return region, [rings[corner] for corner in region.corners]
