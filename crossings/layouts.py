"""What stands on each rank, in which order, and which pieces of edges cross.

An item is what stands at a place: a tuple of BOX and a box's number, or of PASSING and an edge's number.
"""

from crossings.circles import going_down
from crossings.ranks import box_ranks

BOX = 0
PASSING = 1


class Layout:
    """A diagram's edges as they go down, its boxes' ranks, and the items of each rank from left to right."""

    def __init__(self, diagram):
        self.edges = going_down(diagram.edges, diagram.wishes)
        self.ranks = box_ranks(len(diagram.boxes), self.edges, diagram.wishes)
        self.rows = first_rows(self.edges, self.ranks)


def first_rows(edges, ranks):
    """The first order: on each rank its boxes, behind them the edges that pass."""
    rows = [[] for rank in sorted(set(ranks))]
    for box, rank in enumerate(ranks):
        rows[rank].append((BOX, box))
    for edge, arc in enumerate(edges):
        for rank in range(ranks[arc[0]] + 1, ranks[arc[1]]):
            rows[rank].append((PASSING, edge))
    return rows


def passing_places(layout):
    """How many passing places there are on all ranks."""
    return sum([len(row) for row in layout.rows]) - len(layout.ranks)


def channel_count(layout):
    return max(len(layout.rows) - 1, 0)


def item_on(layout, edge, rank):
    """The item at which an edge stands on a rank that it begins on, passes or ends on."""
    for box in layout.edges[edge]:
        if layout.ranks[box] == rank:
            return (BOX, box)
    return (PASSING, edge)


def pieces(layout, channel):
    """The pieces in a channel, in the order of the edges: the edge, its place above, its place below."""
    above = places_by_item(layout.rows[channel])
    below = places_by_item(layout.rows[channel + 1])
    found = []
    for edge, arc in enumerate(layout.edges):
        if layout.ranks[arc[0]] <= channel < layout.ranks[arc[1]]:
            upper = above[item_on(layout, edge, channel)]
            lower = below[item_on(layout, edge, channel + 1)]
            found.append((edge, upper, lower))
    return found


def places_by_item(row):
    places = {}
    for place, item in enumerate(row):
        places[item] = place
    return places


def cross(one, other):
    """Whether one piece stands before the other above and behind it below, or the other way round."""
    if one[1] < other[1]:
        return one[2] > other[2]
    return one[1] > other[1] and one[2] < other[2]


def crossing_pairs(layout, channel):
    """The edges of each two pieces that cross in a channel, the less one first, in order."""
    found = pieces(layout, channel)
    pairs = []
    for number, one in enumerate(found):
        for other in found[number + 1:]:
            if cross(one, other):
                pairs.append((one[0], other[0]))
    return pairs


def channel_crossings(layout):
    """How many crossings each channel has."""
    return [len(crossing_pairs(layout, channel)) for channel in range(channel_count(layout))]


def all_crossings(layout):
    return sum(channel_crossings(layout))


def reorder(layout, rank, places):
    """Puts a rank's items in another order: the one at the place told first comes first, and so on."""
    row = layout.rows[rank]
    layout.rows[rank] = [row[place] for place in places]
