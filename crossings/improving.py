"""Orders made better: sweeps by middles, passes that swap neighbours, settled orders, the best order of a rank.

An order of a rank is a list of the numbers that its places have as they stand now, from left to right.
"""

from crossings.layouts import all_crossings, reorder
from crossings.neighbours import both_sides, crossings_between, neighbours_on

# A sweep down orders by the side above, a sweep up by the side below: the same numbers as those of the sides.
DOWN = 0
UP = 1
ROUNDS_TO_SETTLE = 4


def make_sweep(layout, direction):
    count = len(layout.rows)
    ranks = list(range(1, count))
    if direction == UP:
        ranks = list(range(count - 2, -1, -1))
    for rank in ranks:
        reorder(layout, rank, by_middles(neighbours_on(layout, rank, direction)))


def by_middles(near):
    """The order by middles of a rank of whose places these are the neighbours."""
    moving = [place for place in range(len(near)) if len(near[place]) > 0]
    middles = whole_middles(near)
    order = list(range(len(near)))
    # Sorting leaves those of the same middle as they stood.
    for place, mover in zip(moving, sorted(moving, key=lambda one: middles[one])):
        order[place] = mover
    return order


def whole_middles(near):
    """Each place's middle times one number for all, so that whole numbers compare as the fractions do."""
    common = 1
    for places in near:
        common *= max(len(places), 1)
    return [sum(places) * (common // max(len(places), 1)) for places in near]


def make_pass(layout):
    """Makes a pass; answers how many swaps were made."""
    count = len(layout.rows)
    swaps = 0
    for rank in range(count):
        swaps += pass_along(layout, rank)
    return swaps


def pass_along(layout, rank):
    """The part of a pass on one rank; answers how many swaps were made."""
    sides = both_sides(layout, rank)
    count = len(layout.rows[rank])
    order = list(range(count))
    swaps = 0
    for at in range(count - 1):
        left = order[at]
        right = order[at + 1]
        # A swap changes no other crossings than those between the two.
        if crossings_between(sides, right, left) < crossings_between(sides, left, right):
            order[at] = right
            order[at + 1] = left
            swaps += 1
    reorder(layout, rank, order)
    return swaps


def settle_order(layout):
    best_rows = list(layout.rows)
    fewest = all_crossings(layout)
    for direction in [DOWN, UP] * ROUNDS_TO_SETTLE:
        make_sweep(layout, direction)
        found = all_crossings(layout)
        if found < fewest:
            fewest = found
            best_rows = list(layout.rows)
    layout.rows = best_rows
    swaps = make_pass(layout)
    while swaps > 0:
        swaps = make_pass(layout)


def best_order(layout, rank):
    """The order of a rank with the fewest crossings; of these the one that it has, else the first one."""
    count = len(layout.rows[rank])
    table = crossings_table(both_sides(layout, rank), count)
    best = list(range(count))
    fewest = crossings_of(best, table)
    for order in all_orders(count):
        found = crossings_of(order, table)
        if found < fewest:
            fewest = found
            best = order
    return best


def crossings_table(sides, count):
    """By two places: how many crossings there are between the two if the first one stands before the second one."""
    table = []
    for left in range(count):
        table.append([crossings_between(sides, left, right) for right in range(count)])
    return table


def crossings_of(order, table):
    """The crossings of pieces that stand on this rank, if it has this order."""
    count = 0
    for at, right in enumerate(order):
        for left in order[:at]:
            count += table[left][right]
    return count


def all_orders(count):
    """All orders of so many places; of two the one with the less number where they first differ comes first."""
    orders = [[]]
    for step in range(count):
        longer = []
        for order in orders:
            longer.extend([order + [place] for place in range(count) if place not in order])
        orders = longer
    return orders
