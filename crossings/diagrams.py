"""Diagrams: what a text tells, and their one form."""

from crossings.circles import closes_circle
from crossings.faults import Fault
from crossings.statements import read_statements
from crossings.tokens import codes, scan

LONGEST_TEXT = 4096


class Diagram:
    """Boxes: name, width, height. Edges and wishes: arcs between boxes' numbers. Labels: an edge's, or None."""

    def __init__(self, boxes, edges, labels, wishes):
        self.boxes = boxes
        self.edges = edges
        self.labels = labels
        self.wishes = wishes


def read_diagram(text):
    """The diagram that a text tells; raises its first fault."""
    if len(text) > LONGEST_TEXT:
        raise Fault(1, LONGEST_TEXT)
    told = read_statements(scan(text))
    numbers = box_numbers(told.boxes)
    # Edges are looked at before wishes, for each of the next two faults.
    check_names(told.edges + told.wishes, numbers)
    check_ends(told.edges + told.wishes)
    check_wishes(told.wishes, numbers)
    boxes = [(box[0].value, box[1], box[2]) for box in told.boxes]
    labels = [edge[2] for edge in told.edges]
    return Diagram(boxes, arcs_of(told.edges, numbers), labels, arcs_of(told.wishes, numbers))


def box_numbers(boxes):
    """Each box's number by its name; raises fault 5."""
    numbers = {}
    for number, box in enumerate(boxes):
        name = box[0]
        if name.value in numbers:
            raise Fault(5, name.place)
        numbers[name.value] = number
    return numbers


def check_names(statements, numbers):
    """Raises fault 6 at the first name that no box has."""
    for statement in statements:
        for name in (statement[0], statement[1]):
            if name.value not in numbers:
                raise Fault(6, name.place)


def check_ends(statements):
    """Raises fault 8 at the first statement from a box to itself."""
    for statement in statements:
        if statement[0].value == statement[1].value:
            raise Fault(8, statement[1].place)


def check_wishes(wishes, numbers):
    """Raises fault 9 at the first wish that closes a circle with those before it."""
    arcs = arcs_of(wishes, numbers)
    for number, arc in enumerate(arcs):
        if closes_circle(arc, arcs[:number]):
            raise Fault(9, wishes[number][0].place)


def arcs_of(statements, numbers):
    return [(numbers[statement[0].value], numbers[statement[1].value]) for statement in statements]


def one_form(diagram):
    """The bytes of a diagram's one form."""
    names = [list(box[0]) for box in diagram.boxes]
    form = []
    for box in diagram.boxes:
        form.extend(line([codes("box"), list(box[0]), codes(str(box[1])), codes(str(box[2]))]))
    for arc, label in zip(diagram.edges, diagram.labels):
        parts = [codes("edge"), names[arc[0]], codes("->"), names[arc[1]]]
        if label is not None:
            parts.extend([codes(":"), list(label)])
        form.extend(line(parts))
    for arc in diagram.wishes:
        form.extend(line([codes("above"), names[arc[0]], names[arc[1]]]))
    return form


def line(parts):
    """A line of the one form: its tokens with a blank behind each, the sign at its end, a line feed."""
    row = []
    for part in parts:
        row.extend(part)
        row.extend(codes(" "))
    row.extend(codes(";\n"))
    return row
