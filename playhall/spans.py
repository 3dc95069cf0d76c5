"""What vectors span: all sums of multiples, by fractions, of them."""

from playhall.linear import cleared, primitive


def span_of(vectors):
    """Rows that span what the vectors span: pairs of a place and a row whose number there is not 0.
    Each later row has 0 at this place."""
    rows = []
    for vector in vectors:
        rows = widened(rows, vector)
    return rows


def widened(rows, vector):
    """The rows that span the vector, too. There are as many as before if they spanned it already."""
    if len(rows) == len(vector):
        return rows
    rest = _rest_of(rows, vector)
    places = [place for place, number in enumerate(rest) if number != 0]
    return [*rows, (places[0], rest)] if places else rows


def spans(rows, vector):
    """Whether the vector is a sum of multiples of the rows."""
    return len(widened(rows, vector)) == len(rows)


def _rest_of(rows, vector):
    """A multiple of the vector less multiples of the rows, with 0 at their places."""
    rest = primitive(vector)
    for place, row in rows:
        rest = cleared(rest, row, place)
    return rest
