"""The neighbours of what stands on a rank: the places where its pieces stand on the rank above or below."""

from crossings.layouts import channel_count, pieces

ABOVE = 0
BELOW = 1


def neighbours_on(layout, rank, side):
    """For each place of a rank its neighbours on one side, each as often as a piece stands there."""
    near = [[] for item in layout.rows[rank]]
    channel = rank - 1 if side == ABOVE else rank
    if channel < 0 or channel >= channel_count(layout):
        return near
    for piece in pieces(layout, channel):
        if side == ABOVE:
            near[piece[2]].append(piece[1])
        else:
            near[piece[1]].append(piece[2])
    return near


def both_sides(layout, rank):
    return (neighbours_on(layout, rank, ABOVE), neighbours_on(layout, rank, BELOW))


def crossings_between(sides, left, right):
    """How many crossings the pieces of two places have with each other if the left one stands before the right one."""
    count = 0
    for near in sides:
        for one in near[left]:
            count += len([other for other in near[right] if other < one])
    return count
