"""rank, crossings, pairs, put, refusals, small and large diagrams, and the interface."""

import contextlib
import inspect
import io
import random
import sys
import time
import unittest

from crossings.orders import answers
from tests.helper import (
    FAR, Model, anew, best, crossings, load, made_changes, made_orders, made_text, made_texts, middle, pairs, put, rank,
    rows_of, run, settle, shown, swaps, sweep,
)

# Rank 0: A, B. Rank 1: C, D. All four edges, the inner two of which are doubled, cross here and there.
SQUARE = "box A;box B;box C;box D;edge A->D;edge B->C;edge A->C;edge B->D;edge A->D;edge B->C;"


class Rank(unittest.TestCase):

    def test_boxes_and_passing_places(self):
        text = "box A;box B;box C;edge A->B;edge B->C;edge A->C;"
        self.assertEqual(run(load(text), rank(0), rank(1), rank(2))[1:], [[1, 0, 0], [2, 0, 1, 1, 2], [1, 0, 2]])

    def test_no_such_rank(self):
        for k in (-FAR, -1, 2, 3, FAR):
            self.assertEqual(run(load(SQUARE), rank(k))[1], [-2], k)
        self.assertEqual(run(load(""), rank(0), rank(-1)), [[1, 0, 0, 0], [-2], [-2]])


class Crossings(unittest.TestCase):

    def test_each_channel(self):
        text = "box A;box B;box C;box D;box E;box F;edge A->D;edge B->C;edge C->E;edge C->F;edge D->E;edge A->C;"
        self.assertEqual(run(load(text), crossings())[1], [2, 1, 1])

    def test_no_channel(self):
        self.assertEqual(run(load(""), crossings())[1], [0])
        self.assertEqual(run(load("box A;box B;"), crossings())[1], [0])

    def test_shared_places_do_not_cross(self):
        self.assertEqual(run(load("box A;box B;box C;edge A->C;edge A->B;edge A->C;"), crossings())[1], [0, 0])
        self.assertEqual(run(load("box A;box B;box C;edge B->C;edge A->C;edge B->C;"), crossings())[1], [0, 0])

    def test_the_same_boxes_do_not_cross(self):
        self.assertEqual(run(load("box A;box B;edge A->B;edge A->B;edge B->A;"), crossings())[1], [0, 0])

    def test_edges_between_the_same_boxes_cross_others_each(self):
        text = "box A;box B;box C;box D;edge A->D;edge A->D;edge B->C;edge B->C;edge B->C;"
        self.assertEqual(run(load(text), crossings())[1], [6, 6])

    def test_long_edges_cross_in_more_than_one_channel(self):
        text = "box A;box B;box C;box D;edge A->D;edge B->D;edge A->B;edge B->C;edge C->D;edge A->C;"
        # Both long edges go from A, and end on one rank after another.
        found = run(load(text), put(1, [2, 1, 0]), crossings())
        self.assertEqual(found[1], found[2][:1])
        self.assertEqual(found[2], Model(text).crossings([*rows_of(text, put(1, [2, 1, 0]))]))

    def test_the_most(self):
        text = "box A;box B;box C;box D;" + "edge A->D;" * 20 + "edge B->C;" * 20
        found = run(load(text), crossings(), pairs(0))
        self.assertEqual(found[:2], [[1, 2, 0, 400], [400, 400]])
        self.assertEqual(found[2], [400] + [e for a in range(20) for b in range(20, 40) for e in (a, b)])


class Pairs(unittest.TestCase):

    def test_in_order_the_less_one_first(self):
        self.assertEqual(run(load(SQUARE), pairs(0))[1], [4, 0, 1, 0, 5, 1, 4, 4, 5])

    def test_another_order(self):
        self.assertEqual(run(load(SQUARE), put(0, [1, 0]), pairs(0))[1:], [[1], [1, 2, 3]])

    def test_none(self):
        self.assertEqual(run(load("box A;box B;edge A->B;"), pairs(0))[1], [0])

    def test_a_channel_with_wishes_alone(self):
        self.assertEqual(run(load("box A;box B;above A B;"), pairs(0), crossings())[1:], [[0], [0, 0]])

    def test_no_such_channel(self):
        for k in (-FAR, -1, 1, 2, FAR):
            self.assertEqual(run(load(SQUARE), pairs(k))[1], [-2], k)
        self.assertEqual(run(load("box A;"), pairs(0), pairs(-1))[1:], [[-2], [-2]])
        self.assertEqual(run(load(""), pairs(0), pairs(-1))[1:], [[-2], [-2]])

    def test_turned_edges_keep_their_numbers(self):
        text = "box A;box B;box C;box D;above A C;above A D;above B C;above B D;edge D->A;edge C->B;"
        self.assertEqual(run(load(text), pairs(0)), [[1, 2, 0, 1], [1, 0, 1]])


class Put(unittest.TestCase):

    def test_the_place_told_first_comes_first(self):
        text = "box A;box B;box C;box D;"
        self.assertEqual(run(load(text), put(0, [2, 0, 3, 1]), rank(0))[1:], [[0], [4, 0, 2, 0, 0, 0, 3, 0, 1]])

    def test_numbers_are_those_of_the_order_that_is(self):
        text = "box A;box B;box C;"
        found = run(load(text), put(0, [1, 2, 0]), put(0, [1, 2, 0]), rank(0), put(0, [1, 2, 0]), rank(0))
        self.assertEqual(found[3], [3, 0, 2, 0, 0, 0, 1])
        self.assertEqual(found[5], [3, 0, 0, 0, 1, 0, 2])

    def test_crossings_then(self):
        self.assertEqual(run(load(SQUARE), put(0, [0, 1]), put(0, [1, 0]), crossings(), put(1, [1, 0]))[1:],
                         [[4], [1], [1, 1], [4]])

    def test_no_such_rank(self):
        for k in (-FAR, -1, 2, FAR):
            self.assertEqual(run(load(SQUARE), put(k, [0, 1]))[1], [-2], k)
        self.assertEqual(run(load(""), put(0, []))[1], [-2])

    def test_wrong_lists(self):
        for places in ([], [0], [1], [0, 0], [1, 1], [0, 1, 2], [0, 1, 1], [0, 2], [1, 2], [-1, 0], [0, -1], [0, FAR],
                       [-FAR, 1], [0, 1] * 1000, [1, 0, 0]):
            self.assertEqual(run(load(SQUARE), put(0, places))[1], [-4], places[:4])

    def test_no_such_rank_is_ahead_of_wrong_lists(self):
        for k in (-FAR, -1, 2, FAR):
            for places in ([], [0, 0], [7], list(range(2000))):
                self.assertEqual(run(load(SQUARE), put(k, places))[1], [-2])

    def test_a_refusal_changes_nothing(self):
        asked = [rank(0), rank(1), crossings(), pairs(0), shown()]
        found = run(load(SQUARE), put(0, [1, 0]), *asked, put(0, [0, 0]), put(0, [0]), put(2, [0, 1]), put(-1, []),
                    *asked)
        self.assertEqual(found[7:11], [[-4], [-4], [-2], [-2]])
        self.assertEqual(found[2:7], found[11:])

    def test_back_and_forth(self):
        source = random.Random(41)
        for text in made_texts(source, 40):
            rows = rows_of(text)
            asked = [crossings()] + [rank(k) for k in range(len(rows))] + [pairs(k) for k in range(len(rows) - 1)]
            forth = [source.sample(range(len(row)), len(row)) for row in rows]
            back = [[order.index(place) for place in range(len(order))] for order in forth]
            found = run(load(text), *asked, *[put(k, order) for k, order in enumerate(forth)],
                        *[put(k, order) for k, order in enumerate(back)], *asked)
            self.assertEqual(found[1:len(asked) + 1], found[-len(asked):])

    def test_as_the_model_says(self):
        source = random.Random(42)
        for text in made_texts(source, 120):
            model = Model(text)
            rows = [list(row) for row in model.rows]
            calls = [load(text)]
            asked = [model.loaded()]
            for step in range(6):
                k = source.randrange(len(rows))
                order = source.sample(range(len(rows[k])), len(rows[k]))
                rows[k] = [rows[k][place] for place in order]
                calls += [put(k, order), rank(k), crossings()]
                asked += [model.crossings(rows)[:1], [len(order)] + [n for item in rows[k] for n in item],
                          model.crossings(rows)]
            for k in range(len(rows) - 1):
                calls.append(pairs(k))
                crossing = model.pairs(k, rows)
                asked.append([len(crossing)] + [edge for pair in crossing for edge in pair])
            self.assertEqual(run(*calls), asked)


class NoDiagram(unittest.TestCase):

    def test_every_call_but_load(self):
        for call in (shown(), rank(0), rank(FAR), crossings(), pairs(0), pairs(-FAR), put(0, []), put(-1, [3, 3]),
                     sweep(0), sweep(1), sweep(2), sweep(-FAR), swaps(), settle(), anew(), middle(0, 0, 0),
                     middle(-1, 0, 0), middle(0, -1, 0), middle(0, 0, 5), middle(FAR, -FAR, FAR), best(0), best(-FAR)):
            self.assertEqual(run(call), [[-1]], call)
            self.assertEqual(run(load("!"), call, load("box A;"), crossings()), [[0, 2, 0], [-1], [1, 1, 0, 0], [0]])


class Loads(unittest.TestCase):

    def test_one_that_fails_changes_nothing(self):
        asked = [rank(0), rank(1), crossings(), pairs(0), shown(), middle(0, 0, 1)]
        for change in ([put(0, [1, 0])], [sweep(0)], [sweep(1)], [swaps()], [settle()], [best(0)], [best(1)]):
            for text in ("!", "box", "box A;box A;", "edge A->B;", "x" * 5000):
                found = run(load(SQUARE), *change, *asked, load(text), *asked, anew())
                self.assertEqual(found[2:8], found[9:15])
                self.assertEqual(found[8][0], 0)
                self.assertEqual(found[15], [4])

    def test_one_that_succeeds_starts_with_its_first_order(self):
        asked = [rank(0), rank(1), crossings(), pairs(0), shown()]
        for change in ([put(0, [1, 0])], [sweep(0)], [sweep(1)], [swaps()], [settle()], [best(0)], [best(1)]):
            found = run(load(SQUARE), *asked, *change, load(SQUARE), *asked, load("box A;"), rank(0), rank(1))
            self.assertEqual(found[1:6], found[8:13])
            self.assertEqual(found[13:], [[1, 1, 0, 0], [1, 0, 0], [-2]])


class SmallDiagrams(unittest.TestCase):

    def test_without_a_box(self):
        for text in ("", "# nothing", "\n"):
            self.assertEqual(
                run(load(text), shown(), rank(0), crossings(), pairs(0), put(0, []), sweep(0), sweep(1), sweep(2),
                    sweep(-1), swaps(), settle(), anew(), middle(0, 0, 0), middle(-1, 5, 5), best(0)),
                [[1, 0, 0, 0], [0], [-2], [0], [-2], [-2], [0], [0], [-3], [-3], [0, 0], [0, 0], [0], [-2], [-2], [-2]])

    def test_a_single_rank(self):
        text = "box A;box B;box C;"
        form = b"box A 5 3 ;\nbox B 5 3 ;\nbox C 5 3 ;\n"
        row = [3, 0, 2, 0, 0, 0, 1]
        self.assertEqual(
            run(load(text), shown(), put(0, [2, 0, 1]), rank(0), crossings(), pairs(0), sweep(0), rank(0), sweep(1),
                rank(0), sweep(2), swaps(), rank(0), settle(), rank(0), best(0), rank(0), middle(0, 2, 0),
                middle(0, 2, 1), middle(0, 2, 2), middle(0, 3, 0), middle(1, 0, 0), best(1), anew(), rank(0)),
            [[1, 1, 0, 0], [len(form)] + list(form), [0], row, [0], [-2], [0], row, [0], row, [-3], [0, 0], row, [0, 0],
             row, [0], row, [0, 0], [0, 0], [-3], [-5], [-2], [-2], [0], [3, 0, 0, 0, 1, 0, 2]])

    def test_a_single_box(self):
        self.assertEqual(
            run(load("box A;"), put(0, [0]), sweep(0), sweep(1), swaps(), settle(), anew(), best(0), middle(0, 0, 0),
                middle(0, 0, 1), rank(0)),
            [[1, 1, 0, 0], [0], [0], [0], [0, 0], [0, 0], [0], [0], [0, 0], [0, 0], [1, 0, 0]])


class LargeDiagrams(unittest.TestCase):
    """24 boxes and 40 edges: what makes orders better comes to an end within seconds."""

    def texts(self):
        source = random.Random(43)
        names = [f"n{number}" for number in range(24)]
        for number in range(6):
            yield made_text(source, 24, 40, 0, number % 2 == 0), source
        # As many ranks as can be, with as many edges over them as can be.
        tower = "".join(f"box {name};" for name in names)
        tower += "".join(f"above {a} {b};" for a, b in zip(names[:17], names[1:17]))
        tower += "".join(f"edge {a}->{b};" for a, b in zip(names[16:], names[17:]))
        for number in range(2):
            yield tower + "".join(f"edge n{source.randrange(4)}->n{source.randrange(19, 24)};" for edge in range(33)), source
        # Two ranks, all edges between them.
        yield "".join(f"box {name};" for name in names) + "".join(
            f"edge n{source.randrange(12)}->n{source.randrange(12, 24)};" for edge in range(40)), source

    def test_in_time(self):
        for text, source in self.texts():
            rows = rows_of(text)
            short = [k for k, row in enumerate(rows) if len(row) <= 6]
            start = time.perf_counter()
            found = run(load(text), *made_orders(source, rows), settle(), *made_orders(source, rows), swaps(),
                        *[best(k) for k in short], settle())
            self.assertLess(time.perf_counter() - start, 5)
            self.assertEqual(found[0][0], 1)
            self.assertLessEqual(found[-1][0], found[-1][1])

    def test_a_hundred_calls_in_time(self):
        for text, source in self.texts():
            k = max([k for k, row in enumerate(rows_of(text)) if len(row) <= 6], key=lambda k: len(rows_of(text)[k]),
                    default=0)
            for call in (settle(), best(k)):
                start = time.perf_counter()
                found = run(load(text), *[call] * 99)
                self.assertLess(time.perf_counter() - start, 20)
                self.assertEqual(len(found), 100)


class Interface(unittest.TestCase):

    def test_two_numbers_of_swaps_settle_and_middle_one_of_the_others(self):
        calls = load(SQUARE) + sweep(0) + anew() + swaps() + anew() + settle() + middle(0, 0, 1) + best(0) + best(2)
        self.assertEqual(answers(calls), [4, 1, 2, 0, 4, 1, 1, 1, 4, 2, 1, 1, 1, 4, 2, 1, 4, 2, 3, 1, 1, 1, 1, -2])

    def test_how_many_numbers_stand_before_each_answer(self):
        calls = shown() + load("box A;") + rank(0) + rank(1) + crossings() + load("?") + shown()
        self.assertEqual(answers(calls), [1, -1, 4, 1, 1, 0, 0, 3, 1, 0, 0, 1, -2, 1, 0, 3, 0, 2, 0,
                                          13, 12] + list(b"box A 5 3 ;\n"))

    def test_what_is_handed_in_stays(self):
        calls = load(SQUARE) + put(0, [1, 0]) + put(1, [0, 0]) + rank(0) + pairs(0) + crossings() + shown() + sweep(0)
        calls += sweep(1) + sweep(2) + swaps() + settle() + anew() + middle(1, 0, 0) + middle(1, 2, 0) + best(0) + best(2)
        before = list(calls)
        first = answers(calls)
        self.assertEqual(calls, before)
        self.assertEqual(answers(calls), first)
        self.assertEqual(calls, before)

    def test_the_same_list_gives_the_same(self):
        source = random.Random(44)
        for text in made_texts(source, 30):
            rows = rows_of(text)
            calls = [load(text)]
            for change in made_changes(source, rows, 12):
                calls += [change, rank(source.randrange(len(rows))), middle(source.randrange(len(rows)), 0, 1), crossings()]
            flat = [number for call in calls for number in call]
            before = list(flat)
            first = answers(flat)
            self.assertEqual(flat, before)
            self.assertEqual(answers(flat), first)
            self.assertEqual(flat, before)

    def test_nothing_is_kept_from_one_time_to_the_next(self):
        for change in (put(0, [1, 0]), sweep(0), sweep(1), swaps(), settle(), best(0)):
            self.assertEqual(answers(load(SQUARE) + change)[5:7], [2 if change in ([7], [8]) else 1, 1])
            self.assertEqual(answers(crossings()), [1, -1])
            self.assertEqual(run(load(SQUARE), crossings())[1], [4, 4])

    def test_an_answer_can_be_changed_without_harm(self):
        calls = load(SQUARE) + shown() + rank(0)
        first = answers(calls)
        kept = list(first)
        first.clear()
        self.assertEqual(answers(calls), kept)

    def test_whole_numbers_in_a_list(self):
        found = answers(load(SQUARE) + shown() + rank(0) + crossings() + pairs(0) + put(0, [1, 0]) + load("!") + rank(9)
                        + sweep(0) + sweep(1) + sweep(2) + swaps() + settle() + anew() + middle(1, 0, 0) + middle(0, 0, 0)
                        + middle(0, 9, 0) + best(0) + best(9))
        self.assertIs(type(found), list)
        self.assertEqual({type(number) for number in found}, {int})

    def test_nothing_is_printed(self):
        out, err = io.StringIO(), io.StringIO()
        with contextlib.redirect_stdout(out), contextlib.redirect_stderr(err):
            answers(load(SQUARE) + shown() + load("!") + rank(7) + sweep(0) + swaps() + settle() + anew()
                    + middle(0, 0, 1) + best(0))
        self.assertEqual((out.getvalue(), err.getvalue()), ("", ""))

    def test_a_hundred_calls(self):
        self.assertEqual(run(*[load(SQUARE)] * 50, *[put(0, [1, 0])] * 50),
                         [[1, 2, 0, 4]] * 50 + [[1], [4]] * 25)
        self.assertEqual(run(load(SQUARE), *[anew(), sweep(0), swaps()] * 33), [[1, 2, 0, 4]] + [[4], [1], [1, 0]] * 33)

    def test_long_inputs_are_gone_through_by_loops(self):
        names = [f"b{number}" for number in range(24)]
        way = "".join(f"box {name};" for name in names)
        way += "".join(f"edge {a}->{b};" for a, b in zip(names, names[1:] + names[:1])) + "edge b0->b23;" * 16
        calls = load("\n" * 4096) + load("#\n" * 2048) + load("9" * 4096) + load("a" * 4096) + load(way) + shown()
        calls += sweep(0) + sweep(1) + swaps() + settle() + best(0) + load("".join(f"box {name};" for name in names[:6]))
        calls += best(0) + anew() + middle(0, 0, 0)
        limit = sys.getrecursionlimit()
        sys.setrecursionlimit(len(inspect.stack()) + 40)
        try:
            found = answers(calls)
        finally:
            sys.setrecursionlimit(limit)
        self.assertEqual(found[:18], [4, 1, 0, 0, 0, 4, 1, 0, 0, 0, 3, 0, 2, 0, 3, 0, 2, 0])
        self.assertEqual(found[18:21], [4, 1, 24])


if __name__ == "__main__":
    unittest.main()
