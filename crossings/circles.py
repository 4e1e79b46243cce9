"""Circles of arcs, and the edges that are turned so that there is none.

An arc is a tuple: the box from which it goes, and the box to which it goes.
"""

MOST_TRIED = 10


def reached(arcs, start):
    """The boxes to which some way leads from start, and start itself: a dict of True."""
    found = {start: True}
    waiting = [start]
    while len(waiting) > 0:
        box = waiting.pop()
        for arc in arcs:
            if arc[0] == box and arc[1] not in found:
                found[arc[1]] = True
                waiting.append(arc[1])
    return found


def closes_circle(arc, arcs):
    """Whether a way along these arcs leads from the arc's end to its beginning."""
    return arc[0] in reached(arcs, arc[1])


def has_circle(arcs):
    """Whether some way along these arcs leads from a box back to it.

    An arc from a box to which none comes stands on no circle, so such arcs are left out until none is found:
    if arcs are left then, one can go back along them without end, and so in a circle.
    """
    left = arcs
    fewer = True
    while fewer:
        ends = {}
        for arc in left:
            ends[arc[1]] = True
        kept = [arc for arc in left if arc[0] in ends]
        fewer = len(kept) < len(left)
        left = kept
    return len(left) > 0


def turned_edges(edges, wishes):
    """The numbers of the edges that are turned, the least first."""
    arcs = edges + wishes
    on_circle = [edge for edge, arc in enumerate(edges) if closes_circle(arc, arcs)]
    if len(on_circle) > MOST_TRIED:
        return edges_not_kept(edges, wishes)
    return least_set(edges, wishes, on_circle)


def edges_not_kept(edges, wishes):
    """Edge by edge, those that close a circle with the wishes and the edges kept before."""
    kept = list(wishes)
    others = []
    for edge, arc in enumerate(edges):
        if closes_circle(arc, kept):
            others.append(edge)
        else:
            kept.append(arc)
    return others


def least_set(edges, wishes, on_circle):
    """The first of the least sets of edges on circles without which there is no circle."""
    chosen_sets = [[]]
    for size in range(len(on_circle)):
        for chosen in chosen_sets:
            # Edges that stand on no circle make none, so they need not be looked at.
            rest = [edges[edge] for edge in on_circle if edge not in chosen]
            if not has_circle(rest + wishes):
                return chosen
        chosen_sets = one_larger(chosen_sets, on_circle)
    return on_circle


def one_larger(chosen_sets, numbers):
    """All sets of one number more. As each one grows at its end alone, they stay in their order."""
    larger = []
    for chosen in chosen_sets:
        for number in numbers:
            if len(chosen) == 0 or number > chosen[-1]:
                larger.append(chosen + [number])
    return larger


def going_down(edges, wishes):
    """The edges as they go down: those that are turned go the other way."""
    down = list(edges)
    for edge in turned_edges(edges, wishes):
        down[edge] = (edges[edge][1], edges[edge][0])
    return down
