"""The ranks of a diagram's boxes, 0 at the top."""


def box_ranks(count, edges, wishes):
    """Each box's rank; the edges are told as they go down, so there is no circle."""
    arcs = edges + wishes
    ranks = first_ranks(count, arcs)
    # Each move makes the edges shorter in all, so this comes to an end.
    moved = True
    while moved:
        moved = move_boxes(ranks, edges, arcs)
    return without_gaps(ranks)


def first_ranks(count, arcs):
    """For each box the greatest number of arcs on a way that ends there."""
    ranks = [0] * count
    changed = True
    while changed:
        changed = False
        for arc in arcs:
            if ranks[arc[1]] <= ranks[arc[0]]:
                ranks[arc[1]] = ranks[arc[0]] + 1
                changed = True
    return ranks


def move_boxes(ranks, edges, arcs):
    """Goes through all boxes once, moves them, and tells whether one has moved."""
    count = len(ranks)
    moved = False
    for box in range(count):
        wanted = wanted_rank(box, ranks, edges, arcs)
        if wanted != ranks[box]:
            ranks[box] = wanted
            moved = True
    return moved


def wanted_rank(box, ranks, edges, arcs):
    """The rank to which a box is moved: edges alone say which way it goes, wishes too how far it can."""
    out_of_it = len([edge for edge in edges if edge[0] == box])
    into_it = len([edge for edge in edges if edge[1] == box])
    if out_of_it > into_it:
        return min([ranks[arc[1]] for arc in arcs if arc[0] == box]) - 1
    if out_of_it < into_it:
        return max([ranks[arc[0]] for arc in arcs if arc[1] == box]) + 1
    return ranks[box]


def without_gaps(ranks):
    """The ranks, numbered anew without those on which no box stands."""
    taken = sorted(set(ranks))
    return [taken.index(rank) for rank in ranks]
