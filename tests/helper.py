"""What the tests share: calls and their answers, and a plain model of the document to compare with.

The model is written apart from the program and in other ways: tokens by patterns, the grammar as a table of
states, ways by closures, ranks by recursion, crossings counted along one side, middles as fractions, swaps and best
orders by counting all crossings around a rank anew.
"""

import fractions
import functools
import graphlib
import itertools
import re

from crossings.orders import answers

FAR = 10 ** 18


def load(text):
    data = list(text.encode("latin-1") if isinstance(text, str) else text)
    return [0, len(data)] + data


def shown():
    return [1]


def rank(k):
    return [2, k]


def crossings():
    return [3]


def pairs(k):
    return [4, k]


def put(k, places):
    return [5, k, len(places)] + list(places)


def sweep(d):
    return [6, d]


def swaps():
    return [7]


def settle():
    return [8]


def anew():
    return [9]


def middle(k, i, s):
    return [10, k, i, s]


def best(k):
    return [11, k]


def split(flat):
    """The answers one by one, from the list that has each one's length before it."""
    found = []
    at = 0
    while at < len(flat):
        behind = at + 1 + flat[at]
        assert behind <= len(flat)
        found.append(flat[at + 1:behind])
        at = behind
    return found


def run(*calls):
    """The answer to each call, all on one object."""
    assert 1 <= len(calls) <= 100
    return split(answers([number for call in calls for number in call]))


def rows_of(text, *calls):
    """What stands on each rank when the text has been loaded and the calls have been made."""
    count = run(load(text))[0][1]
    found = run(load(text), *calls, *[rank(k) for k in range(count)])[1 + len(calls):]
    return [list(zip(row[1::2], row[2::2])) for row in found]


def form_of(text):
    answer = run(load(text), shown())[1]
    assert answer[0] == len(answer) - 1
    return bytes(answer[1:]).decode("ascii")


def named_rows(text, *calls):
    """The order behind the calls with boxes by their names and passing places as numbers of edges."""
    names = re.findall(r"^box (\w+)", form_of(text), re.M)
    return [[names[number] if sort == 0 else number for sort, number in row] for row in rows_of(text, *calls)]


def boxes(names):
    """The text of boxes whose names are letters."""
    return "".join(f"box {name};" for name in names)


def edges(ends):
    """The text of edges, each told by the letters of its two boxes."""
    return "".join(f"edge {one[0]}->{one[1]};" for one in ends.split())


# The model.

GAP = re.compile(rb"(?:[ \t\n]|#[^\n]*)*")
TOKEN = re.compile(rb"[A-Za-z][A-Za-z0-9]*|[0-9]+|->|[{};:]")
STATES = {
    "start": {"box": "b1", "edge": "e1", "above": "a1", "end": "done"},
    "b1": {"name": "b2"}, "b2": {"number": "b3", ";": "start"}, "b3": {"number": "b4"}, "b4": {";": "start"},
    "e1": {"name": "e2"}, "e2": {"->": "e3"}, "e3": {"name": "e4"}, "e4": {":": "e5", ";": "start"},
    "e5": {"name": "e6"}, "e6": {";": "start"},
    "a1": {"name": "a2"}, "a2": {"name": "a3"}, "a3": {";": "start"},
}
MOST = {"box": 24, "edge": 40, "above": 16}


class ModelFault(Exception):
    pass


def model_tokens(data):
    found = []
    at = GAP.match(data).end()
    while at < len(data):
        match = TOKEN.match(data, at)
        if match is None:
            raise ModelFault(2, at)
        word = match.group().decode()
        kind = word
        if word[0].isdigit():
            kind = "number"
            if int(word[:12]) > 10 ** 9 or (word[0] == "0" and word != "0"):
                raise ModelFault(2, at)
        elif word[0].isalpha() and word not in ("box", "edge", "above", "group"):
            kind = "name"
            if len(word) > 16:
                raise ModelFault(2, at)
        found.append((kind, word, at))
        at = GAP.match(data, match.end()).end()
    return found + [("end", "", len(data))]


def model_statements(tokens):
    """The statements as lists of tokens; faults 3, 4, 7."""
    told = {"box": [], "edge": [], "above": []}
    state = "start"
    for kind, word, at in tokens:
        if kind not in STATES[state]:
            raise ModelFault(3, at)
        state = STATES[state][kind]
        if kind in told:
            current = told[kind]
            if len(current) == MOST[kind]:
                raise ModelFault(4, at)
            current.append([])
        elif kind == "number":
            low, high = (len(current[-1][0][1]) + 2, 30) if state == "b3" else (3, 9)
            if not low <= int(word) <= high:
                raise ModelFault(7, at)
        if kind in ("name", "number"):
            current[-1].append((kind, word, at))
    return told


def closure(arcs):
    ways = set(arcs)
    while True:
        more = {(a, d) for a, b in ways for c, d in arcs if b == c} - ways
        if not more:
            return ways
        ways |= more


def circular(arcs):
    sorter = graphlib.TopologicalSorter()
    for a, b in arcs:
        sorter.add(b, a)
    try:
        sorter.prepare()
    except graphlib.CycleError:
        return True
    return False


class Model:
    """A loaded diagram by the words of the document; raises ModelFault."""

    def __init__(self, text):
        data = text.encode("latin-1") if isinstance(text, str) else bytes(text)
        if len(data) > 4096:
            raise ModelFault(1, 4096)
        told = model_statements(model_tokens(data))
        self.names = [box[0][1] for box in told["box"]]
        for number, box in enumerate(told["box"]):
            if box[0][1] in self.names[:number]:
                raise ModelFault(5, box[0][2])
        both = told["edge"] + told["above"]
        for kind, word, at in [name for statement in both for name in statement[:2]]:
            if word not in self.names:
                raise ModelFault(6, at)
        for first, second in [statement[:2] for statement in both]:
            if first[1] == second[1]:
                raise ModelFault(8, second[2])
        self.told = told
        self.edges = [(self.names.index(e[0][1]), self.names.index(e[1][1])) for e in told["edge"]]
        self.wishes = [(self.names.index(w[0][1]), self.names.index(w[1][1])) for w in told["above"]]
        for number in range(len(self.wishes)):
            if circular(self.wishes[:number + 1]):
                raise ModelFault(9, told["above"][number][0][2])
        self.turned = self.find_turned()
        self.down = [(b, a) if e in self.turned else (a, b) for e, (a, b) in enumerate(self.edges)]
        self.ranks = self.find_ranks()
        self.rows = [
            [(0, box) for box in range(len(self.names)) if self.ranks[box] == k]
            + [(1, e) for e, (a, b) in enumerate(self.down) if self.ranks[a] < k < self.ranks[b]]
            for k in range(len(set(self.ranks)))
        ]

    def find_turned(self):
        ways = closure(self.edges + self.wishes)
        standing = [e for e, (a, b) in enumerate(self.edges) if (b, a) in ways]
        if len(standing) > 10:
            kept = []
            for e in range(len(self.edges)):
                if not circular([self.edges[k] for k in kept + [e]] + self.wishes):
                    kept.append(e)
            return tuple(e for e in range(len(self.edges)) if e not in kept)
        for size in range(len(standing) + 1):
            for chosen in itertools.combinations(standing, size):
                if not circular([arc for e, arc in enumerate(self.edges) if e not in chosen] + self.wishes):
                    return chosen

    def find_ranks(self):
        arcs = self.down + self.wishes

        @functools.lru_cache(None)
        def longest(box):
            return max([longest(a) + 1 for a, b in arcs if b == box], default=0)

        ranks = [longest(box) for box in range(len(self.names))]
        before = None
        while before != ranks:
            before = list(ranks)
            for box in range(len(ranks)):
                balance = sum(a == box for a, b in self.down) - sum(b == box for a, b in self.down)
                if balance > 0:
                    ranks[box] = min(ranks[b] for a, b in arcs if a == box) - 1
                elif balance < 0:
                    ranks[box] = max(ranks[a] for a, b in arcs if b == box) + 1
        return [sum(other < r for other in set(ranks)) for r in ranks]

    def pieces(self, k, rows=None):
        """The pieces of channel k as (place above, place below, edge)."""
        rows = self.rows if rows is None else rows
        found = []
        for e, (a, b) in enumerate(self.down):
            if self.ranks[a] <= k < self.ranks[b]:
                above = rows[k].index((0, a) if self.ranks[a] == k else (1, e))
                below = rows[k + 1].index((0, b) if self.ranks[b] == k + 1 else (1, e))
                found.append((above, below, e))
        return found

    def pairs(self, k, rows=None):
        """Counted along the upper side: a piece crosses those before it that end behind it."""
        found = []
        before = []
        for piece in sorted(self.pieces(k, rows)):
            found += [tuple(sorted((piece[2], other[2]))) for other in before
                      if other[0] < piece[0] and other[1] > piece[1]]
            before.append(piece)
        return sorted(found)

    def crossings(self, rows=None):
        each = [len(self.pairs(k, rows)) for k in range(len(self.rows) - 1)]
        return [sum(each)] + each

    def near(self, k, s, rows):
        """For each place of rank k its neighbours above (s is 0) or below."""
        found = [[] for item in rows[k]]
        if 0 <= k - 1 + s < len(rows) - 1:
            for above, below, edge in self.pieces(k - 1 + s, rows):
                found[(below, above)[s]].append((above, below)[s])
        return found

    def swept(self, d, rows):
        rows = [list(row) for row in rows]
        for k in (range(1, len(rows)), range(len(rows) - 2, -1, -1))[d]:
            near = self.near(k, d, rows)
            movers = iter(sorted((fractions.Fraction(sum(places), len(places)), place)
                                 for place, places in enumerate(near) if places))
            rows[k] = [rows[k][next(movers)[1]] if places else rows[k][place] for place, places in enumerate(near)]
        return rows

    def around(self, k, row, rows):
        """The crossings in the channels at rank k, if it has this row."""
        rows = rows[:k] + [row] + rows[k + 1:]
        return sum(len(self.pairs(c, rows)) for c in (k - 1, k) if 0 <= c < len(rows) - 1)

    def passed(self, rows):
        """The rows behind a pass, and how many swaps it made."""
        rows = [list(row) for row in rows]
        made = 0
        for k in range(len(rows)):
            for i in range(len(rows[k]) - 1):
                swapped = rows[k][:i] + [rows[k][i + 1], rows[k][i]] + rows[k][i + 2:]
                if self.around(k, swapped, rows) < self.around(k, rows[k], rows):
                    rows[k] = swapped
                    made += 1
        return rows, made

    def settled(self, rows):
        seen = [rows]
        for d in (0, 1) * 4:
            seen.append(self.swept(d, seen[-1]))
        counts = [self.crossings(one)[0] for one in seen]
        rows, made = self.passed(seen[counts.index(min(counts))])
        while made:
            rows, made = self.passed(rows)
        return rows

    def with_best(self, k, rows):
        places = range(len(rows[k]))
        order = min(itertools.permutations(places), key=lambda order: (
            self.around(k, [rows[k][place] for place in order], rows), order != tuple(places), order))
        return rows[:k] + [[rows[k][place] for place in order]] + rows[k + 1:]

    def loaded(self):
        passing = sum(sort for row in self.rows for sort, number in row)
        return [1, len(self.rows), passing, self.crossings()[0]]

    def form(self):
        lines = []
        for box in self.told["box"]:
            size = [part[1] for part in box[1:]] or [str(len(box[0][1]) + 4), "3"]
            lines.append(["box", box[0][1]] + size)
        for edge in self.told["edge"]:
            label = [":", edge[2][1]] if len(edge) == 3 else []
            lines.append(["edge", edge[0][1], "->", edge[1][1]] + label)
        for wish in self.told["above"]:
            lines.append(["above", wish[0][1], wish[1][1]])
        return "".join(" ".join(line + [";"]) + "\n" for line in lines)


def model_load(text):
    try:
        return Model(text).loaded()
    except ModelFault as fault:
        return [0] + list(fault.args)


def made_text(source, boxes, edges, wishes, circles):
    """A diagram's text out of a random source; without circles all arcs go from a lower number to a greater."""
    lines = [f"box n{box} ;" for box in range(boxes)]
    for word, sign, count in (("edge", "-> ", edges), ("above", "", wishes)):
        for number in range(count):
            a, b = source.sample(range(boxes), 2)
            if not circles or word == "above":
                a, b = min(a, b), max(a, b)
            lines.append(f"{word} n{a} {sign}n{b} ;")
    source.shuffle(lines)
    return "\n".join(lines)


def made_orders(source, rows):
    """A put for each rank."""
    return [put(k, source.sample(range(len(row)), len(row))) for k, row in enumerate(rows)]


def made_changes(source, rows, count):
    """Calls of all sorts that make other orders."""
    calls = []
    for number in range(count):
        k = source.randrange(len(rows))
        calls.append(source.choice((
            put(k, source.sample(range(len(rows[k])), len(rows[k]))), sweep(0), sweep(1), swaps(), settle(), anew(),
            best(k), best(k))))
    return calls


def made_zigzag(source, length):
    """A way of edges to and fro between two ranks, which sweeps put in order only step by step."""
    places = source.sample(range(length), length)
    lines = [f"box n{place} ;" for place in places]
    for place in range(length - 1):
        lines.append("edge n{} -> n{} ;".format(*sorted((place, place + 1), key=lambda one: one % 2)))
    return "\n".join(lines)


def made_texts(source, count):
    """Diagrams of many sizes, with and without circles, every third one small."""
    for number in range(count):
        boxes = source.randrange(2, 9 if number % 3 == 0 else 25)
        edges = source.randrange(0, 13 if number % 3 == 0 else 41)
        yield made_text(source, boxes, edges, source.randrange(0, 17), number % 2 == 0)
