"""The calls on an object that holds a diagram with an order, or none, and their answers.

A refusal is a list of one number below 0: -1 without a diagram, -2 without such a rank or channel, -3 with a number
that is neither 0 nor 1, -4 with a list that is not all numbers of a rank's places, -5 without such a place, -6 with a
rank that has too many places.
"""

from crossings.diagrams import one_form, read_diagram
from crossings.faults import Fault
from crossings.improving import best_order, make_pass, make_sweep, settle_order
from crossings.layouts import (
    Layout, all_crossings, channel_count, channel_crossings, crossing_pairs, first_rows, passing_places, reorder,
)
from crossings.neighbours import neighbours_on

LOAD = 0
SHOWN = 1
RANK = 2
CROSSINGS = 3
PAIRS = 4
PUT = 5
SWEEP = 6
SWAPS = 7
SETTLE = 8
ANEW = 9
MIDDLE = 10
# By a call's number: how many whole numbers it has, and how many rows behind them.
NUMBERS_OF_CALL = (0, 0, 1, 0, 1, 1, 1, 0, 0, 0, 3, 1)
ROWS_OF_CALL = (1, 0, 0, 0, 0, 1, 0, 0, 0, 0, 0, 0)
MOST_PLACES_FOR_BEST = 6


class Held:
    """What the object holds: a diagram and its layout, or None twice."""

    def __init__(self):
        self.diagram = None
        self.layout = None


class Call:
    """A call: its number, its whole numbers, its row (empty if it has none) and the place behind it."""

    def __init__(self, calls, at):
        self.number = calls[at]
        behind = at + 1 + NUMBERS_OF_CALL[self.number]
        self.numbers = calls[at + 1:behind]
        self.row = []
        if ROWS_OF_CALL[self.number] == 1:
            start = behind + 1
            behind = start + calls[behind]
            self.row = calls[start:behind]
        self.behind = behind


def answers(calls):
    """The answers to all calls, each with how many numbers it has before it."""
    held = Held()
    given = []
    at = 0
    while at < len(calls):
        call = Call(calls, at)
        answer = answer_to(held, call)
        given.append(len(answer))
        given.extend(answer)
        at = call.behind
    return given


def answer_to(held, call):
    if call.number == LOAD:
        return load(held, call.row)
    if held.layout is None:
        return [-1]
    if call.number == SHOWN:
        return shown(held.diagram)
    if call.number in (RANK, CROSSINGS, PAIRS, MIDDLE):
        return asked(held.layout, call)
    return changed(held.layout, call)


def asked(layout, call):
    """The answer to a call that leaves the order as it is."""
    if call.number == RANK:
        return rank_items(layout, call.numbers[0])
    if call.number == CROSSINGS:
        return count_crossings(layout)
    if call.number == PAIRS:
        return list_pairs(layout, call.numbers[0])
    return middle(layout, call.numbers[0], call.numbers[1], call.numbers[2])


def changed(layout, call):
    """The answer to a call that makes another order."""
    if call.number == PUT:
        return put(layout, call.numbers[0], call.row)
    if call.number == SWEEP:
        return sweep(layout, call.numbers[0])
    if call.number == SWAPS:
        return swaps(layout)
    if call.number == SETTLE:
        return settle(layout)
    if call.number == ANEW:
        return anew(layout)
    return best(layout, call.numbers[0])


def load(held, text):
    try:
        diagram = read_diagram(text)
    except Fault as fault:
        return [0, fault.code, fault.place]
    layout = Layout(diagram)
    held.diagram = diagram
    held.layout = layout
    return [1, len(layout.rows), passing_places(layout), all_crossings(layout)]


def shown(diagram):
    form = one_form(diagram)
    return [len(form)] + form


def no_such_rank(layout, rank):
    return rank < 0 or rank >= len(layout.rows)


def rank_items(layout, rank):
    if no_such_rank(layout, rank):
        return [-2]
    row = layout.rows[rank]
    answer = [len(row)]
    for item in row:
        answer.extend(list(item))
    return answer


def count_crossings(layout):
    return [all_crossings(layout)] + channel_crossings(layout)


def list_pairs(layout, channel):
    if channel < 0 or channel >= channel_count(layout):
        return [-2]
    pairs = crossing_pairs(layout, channel)
    answer = [len(pairs)]
    for pair in pairs:
        answer.extend(list(pair))
    return answer


def put(layout, rank, places):
    if no_such_rank(layout, rank):
        return [-2]
    if sorted(places) != list(range(len(layout.rows[rank]))):
        return [-4]
    reorder(layout, rank, places)
    return [all_crossings(layout)]


def sweep(layout, direction):
    if direction not in (0, 1):
        return [-3]
    make_sweep(layout, direction)
    return [all_crossings(layout)]


def swaps(layout):
    made = make_pass(layout)
    return [all_crossings(layout), made]


def settle(layout):
    before = all_crossings(layout)
    settle_order(layout)
    return [all_crossings(layout), before]


def anew(layout):
    layout.rows = first_rows(layout.edges, layout.ranks)
    return [all_crossings(layout)]


def middle(layout, rank, place, side):
    if no_such_rank(layout, rank):
        return [-2]
    if place < 0 or place >= len(layout.rows[rank]):
        return [-5]
    if side not in (0, 1):
        return [-3]
    near = neighbours_on(layout, rank, side)[place]
    return [len(near), sum(near)]


def best(layout, rank):
    if no_such_rank(layout, rank):
        return [-2]
    if len(layout.rows[rank]) > MOST_PLACES_FOR_BEST:
        return [-6]
    reorder(layout, rank, best_order(layout, rank))
    return [all_crossings(layout)]
