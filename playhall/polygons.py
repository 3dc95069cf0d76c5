"""Regions: the least convex polygons that contain some mixes.

A mix `(x, y, n)` stands for the point (x / n, y / n). With n = 0 it stands for the direction (x, y)."""

from playhall.houseerrors import Barred, EmptyRegion
from playhall.linear import primitive
from playhall.mixes import lowest


class Region:
    """The least convex polygon that contains some mixes; it may be a segment or a point."""

    def __init__(self, mixes):
        if len(mixes) == 0:
            raise EmptyRegion()
        self._corners = tuple(_corners_of([lowest(mix) for mix in mixes]))
        self._edges = tuple(_edges_of(self._corners))

    @property
    def corners(self):
        """The corners, counterclockwise, beginning with that of the least x and then the least y."""
        return list(self._corners)

    @property
    def edges(self):
        """The bounds `(a, b, c)` that hold for just the points of the region."""
        return list(self._edges)

    def __contains__(self, x):
        return self.bar(x) is None

    def __eq__(self, other):
        return isinstance(other, Region) and self._corners == other._corners

    def within(self, other):
        """Whether every point of this region belongs to the other one."""
        return all([corner in other for corner in self._corners])

    def bar(self, mix):
        """The first edge that bars the mix, or None; raises InvalidMix."""
        first, second, beats = lowest(mix)
        for a, b, c in self._edges:
            if a * first + b * second > c * beats:
                return (a, b, c)
        return None

    def weights(self, mix):
        """One to three corners with weights whose weighted mean is the mix; raises InvalidMix, Barred."""
        edge = self.bar(mix)
        if edge is not None:
            raise Barred(edge)
        point = lowest(mix)
        corners = list(enumerate(self._corners))
        # Directions complete a triangle where there are too few corners. They get no weight.
        if len(corners) == 1:
            corners = [*corners, (1, (1, 0, 0)), (2, (0, 1, 0))]
        elif len(corners) == 2:
            u, v = _direction(self._corners[0], self._corners[1])
            corners = [*corners, (2, (-v, u, 0))]
        for second, third in zip(corners[1:], corners[2:]):
            found = _weights_in([corners[0], second, third], point)
            if found is not None:
                return found


def _corners_of(points):
    """The corners of the least polygon that contains the points."""
    first = points[0]
    for point in points:
        if _precedes(point, first):
            first = point
    corners = [first]
    following = _following(points, first)
    while following != first:
        corners.append(following)
        following = _following(points, following)
    return corners


def _following(points, corner):
    """The corner that follows counterclockwise, or the corner itself if there is no other point."""
    chosen = corner
    for point in points:
        if chosen == corner or _is_outer(corner, chosen, point):
            chosen = point
    return chosen


def _is_outer(corner, chosen, point):
    """Whether the point lies to the right of the way from the corner to the chosen point, or beyond it."""
    turn = _determinant(corner, chosen, point)
    return turn < 0 or (turn == 0 and _precedes(corner, chosen) == _precedes(chosen, point))


def _precedes(one, other):
    """Whether a point has the lesser x, or the same one and the lesser y."""
    left, right = one[0] * other[2], other[0] * one[2]
    return left < right or (left == right and one[1] * other[2] < other[1] * one[2])


def _determinant(one, other, third):
    """It is above 0 if the three points follow each other counterclockwise, and 0 if they lie on a line."""
    return (one[0] * (other[1] * third[2] - other[2] * third[1])
            - one[1] * (other[0] * third[2] - other[2] * third[0])
            + one[2] * (other[0] * third[1] - other[1] * third[0]))


def _direction(one, other):
    """The direction from one point to the other."""
    return (other[0] * one[2] - one[0] * other[2], other[1] * one[2] - one[1] * other[2])


def _edges_of(corners):
    """The edges of the polygon with these corners."""
    if len(corners) > 2:
        return [_edge_to(corner, following) for corner, following in zip(corners, [*corners[1:], corners[0]])]
    first, last = corners[0], corners[-1]
    u, v = (1, 0) if first == last else _direction(first, last)
    return [_bound(v, -u, last), _bound(u, v, last), _bound(-v, u, last), _bound(-u, -v, first)]


def _edge_to(corner, following):
    """The edge from a corner to the next one, with the polygon to its left."""
    u, v = _direction(corner, following)
    return _bound(v, -u, corner)


def _bound(a, b, corner):
    """The bound with this direction that holds with equality for the corner."""
    return tuple(primitive([a * corner[2], b * corner[2], a * corner[0] + b * corner[1]]))


def _weights_in(triangle, point):
    """The weights of three pairs of an index and a corner, whose weighted mean is the point. Weights of 0 are
    left out. It is None if the point lies outside."""
    one, other, third = [corner for _, corner in triangle]
    parts = [_determinant(point, other, third), _determinant(one, point, third), _determinant(one, other, point)]
    if any([part < 0 for part in parts]):
        return None
    weights = primitive([part * corner[2] for part, (_, corner) in zip(parts, triangle)])
    return [(index, weight) for weight, (index, _) in zip(weights, triangle) if weight > 0]
