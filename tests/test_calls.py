"""rank, crossings, pairs, put, refusals, and the interface."""

import contextlib
import inspect
import io
import random
import sys
import unittest

from crossings.orders import answers
from tests.helper import FAR, Model, crossings, load, made_texts, pairs, put, rank, rows_of, run, shown

# Rank 0: A, B. Rank 1: C, D. All four edges, the inner two of which are doubled, cross here and there.
SQUARE = "box A;box B;box C;box D;edge A->D;edge B->C;edge A->C;edge B->D;edge A->D;edge B->C;"


class Rank(unittest.TestCase):

    def test_boxes_and_passing_places(self):
        text = "box A;box B;box C;edge A->B;edge B->C;edge A->C;"
        self.assertEqual(run(load(text), rank(0), rank(1), rank(2))[1:], [[1, 0, 0], [2, 0, 1, 1, 2], [1, 0, 2]])

    def test_no_such_rank(self):
        for k in (-FAR, -1, 2, 3, FAR):
            self.assertEqual(run(load(SQUARE), rank(k))[1], [-2], k)
        self.assertEqual(run(load(""), rank(0), rank(-1)), [[1, 0, 0, 0], [-2], [-2]])


class Crossings(unittest.TestCase):

    def test_each_channel(self):
        text = "box A;box B;box C;box D;box E;box F;edge A->D;edge B->C;edge C->E;edge C->F;edge D->E;edge A->C;"
        self.assertEqual(run(load(text), crossings())[1], [2, 1, 1])

    def test_no_channel(self):
        self.assertEqual(run(load(""), crossings())[1], [0])
        self.assertEqual(run(load("box A;box B;"), crossings())[1], [0])

    def test_shared_places_do_not_cross(self):
        self.assertEqual(run(load("box A;box B;box C;edge A->C;edge A->B;edge A->C;"), crossings())[1], [0, 0])
        self.assertEqual(run(load("box A;box B;box C;edge B->C;edge A->C;edge B->C;"), crossings())[1], [0, 0])

    def test_the_same_boxes_do_not_cross(self):
        self.assertEqual(run(load("box A;box B;edge A->B;edge A->B;edge B->A;"), crossings())[1], [0, 0])

    def test_edges_between_the_same_boxes_cross_others_each(self):
        text = "box A;box B;box C;box D;edge A->D;edge A->D;edge B->C;edge B->C;edge B->C;"
        self.assertEqual(run(load(text), crossings())[1], [6, 6])

    def test_long_edges_cross_in_more_than_one_channel(self):
        text = "box A;box B;box C;box D;edge A->D;edge B->D;edge A->B;edge B->C;edge C->D;edge A->C;"
        # Both long edges go from A, and end on one rank after another.
        found = run(load(text), put(1, [2, 1, 0]), crossings())
        self.assertEqual(found[1], found[2][:1])
        self.assertEqual(found[2], Model(text).crossings([*rows_of(text, put(1, [2, 1, 0]))]))

    def test_the_most(self):
        text = "box A;box B;box C;box D;" + "edge A->D;" * 20 + "edge B->C;" * 20
        found = run(load(text), crossings(), pairs(0))
        self.assertEqual(found[:2], [[1, 2, 0, 400], [400, 400]])
        self.assertEqual(found[2], [400] + [e for a in range(20) for b in range(20, 40) for e in (a, b)])


class Pairs(unittest.TestCase):

    def test_in_order_the_less_one_first(self):
        self.assertEqual(run(load(SQUARE), pairs(0))[1], [4, 0, 1, 0, 5, 1, 4, 4, 5])

    def test_another_order(self):
        self.assertEqual(run(load(SQUARE), put(0, [1, 0]), pairs(0))[1:], [[1], [1, 2, 3]])

    def test_none(self):
        self.assertEqual(run(load("box A;box B;edge A->B;"), pairs(0))[1], [0])

    def test_a_channel_with_wishes_alone(self):
        self.assertEqual(run(load("box A;box B;above A B;"), pairs(0), crossings())[1:], [[0], [0, 0]])

    def test_no_such_channel(self):
        for k in (-FAR, -1, 1, 2, FAR):
            self.assertEqual(run(load(SQUARE), pairs(k))[1], [-2], k)
        self.assertEqual(run(load("box A;"), pairs(0), pairs(-1))[1:], [[-2], [-2]])
        self.assertEqual(run(load(""), pairs(0), pairs(-1))[1:], [[-2], [-2]])

    def test_turned_edges_keep_their_numbers(self):
        text = "box A;box B;box C;box D;above A C;above A D;above B C;above B D;edge D->A;edge C->B;"
        self.assertEqual(run(load(text), pairs(0)), [[1, 2, 0, 1], [1, 0, 1]])


class Put(unittest.TestCase):

    def test_the_place_told_first_comes_first(self):
        text = "box A;box B;box C;box D;"
        self.assertEqual(run(load(text), put(0, [2, 0, 3, 1]), rank(0))[1:], [[0], [4, 0, 2, 0, 0, 0, 3, 0, 1]])

    def test_numbers_are_those_of_the_order_that_is(self):
        text = "box A;box B;box C;"
        found = run(load(text), put(0, [1, 2, 0]), put(0, [1, 2, 0]), rank(0), put(0, [1, 2, 0]), rank(0))
        self.assertEqual(found[3], [3, 0, 2, 0, 0, 0, 1])
        self.assertEqual(found[5], [3, 0, 0, 0, 1, 0, 2])

    def test_crossings_then(self):
        self.assertEqual(run(load(SQUARE), put(0, [0, 1]), put(0, [1, 0]), crossings(), put(1, [1, 0]))[1:],
                         [[4], [1], [1, 1], [4]])

    def test_no_such_rank(self):
        for k in (-FAR, -1, 2, FAR):
            self.assertEqual(run(load(SQUARE), put(k, [0, 1]))[1], [-2], k)
        self.assertEqual(run(load(""), put(0, []))[1], [-2])

    def test_wrong_lists(self):
        for places in ([], [0], [1], [0, 0], [1, 1], [0, 1, 2], [0, 1, 1], [0, 2], [1, 2], [-1, 0], [0, -1], [0, FAR],
                       [-FAR, 1], [0, 1] * 1000, [1, 0, 0]):
            self.assertEqual(run(load(SQUARE), put(0, places))[1], [-4], places[:4])

    def test_no_such_rank_is_ahead_of_wrong_lists(self):
        for k in (-FAR, -1, 2, FAR):
            for places in ([], [0, 0], [7], list(range(2000))):
                self.assertEqual(run(load(SQUARE), put(k, places))[1], [-2])

    def test_a_refusal_changes_nothing(self):
        asked = [rank(0), rank(1), crossings(), pairs(0), shown()]
        found = run(load(SQUARE), put(0, [1, 0]), *asked, put(0, [0, 0]), put(0, [0]), put(2, [0, 1]), put(-1, []),
                    *asked)
        self.assertEqual(found[7:11], [[-4], [-4], [-2], [-2]])
        self.assertEqual(found[2:7], found[11:])

    def test_back_and_forth(self):
        source = random.Random(41)
        for text in made_texts(source, 40):
            rows = rows_of(text)
            asked = [crossings()] + [rank(k) for k in range(len(rows))] + [pairs(k) for k in range(len(rows) - 1)]
            forth = [source.sample(range(len(row)), len(row)) for row in rows]
            back = [[order.index(place) for place in range(len(order))] for order in forth]
            found = run(load(text), *asked, *[put(k, order) for k, order in enumerate(forth)],
                        *[put(k, order) for k, order in enumerate(back)], *asked)
            self.assertEqual(found[1:len(asked) + 1], found[-len(asked):])

    def test_as_the_model_says(self):
        source = random.Random(42)
        for text in made_texts(source, 120):
            model = Model(text)
            rows = [list(row) for row in model.rows]
            calls = [load(text)]
            asked = [model.loaded()]
            for step in range(6):
                k = source.randrange(len(rows))
                order = source.sample(range(len(rows[k])), len(rows[k]))
                rows[k] = [rows[k][place] for place in order]
                calls += [put(k, order), rank(k), crossings()]
                asked += [model.crossings(rows)[:1], [len(order)] + [n for item in rows[k] for n in item],
                          model.crossings(rows)]
            for k in range(len(rows) - 1):
                calls.append(pairs(k))
                crossing = model.pairs(k, rows)
                asked.append([len(crossing)] + [edge for pair in crossing for edge in pair])
            self.assertEqual(run(*calls), asked)


class NoDiagram(unittest.TestCase):

    def test_every_call_but_load(self):
        for call in (shown(), rank(0), rank(FAR), crossings(), pairs(0), pairs(-FAR), put(0, []), put(-1, [3, 3]),
                     [6, 0], [6, 9], [7], [8], [9], [10, 0, 0, 0], [10, -1, -1, 5], [11, 0], [11, -FAR]):
            self.assertEqual(run(call), [[-1]], call)
            self.assertEqual(run(load("!"), call, load("box A;"), crossings()), [[0, 2, 0], [-1], [1, 1, 0, 0], [0]])


class Interface(unittest.TestCase):

    def test_how_many_numbers_stand_before_each_answer(self):
        calls = shown() + load("box A;") + rank(0) + rank(1) + crossings() + load("?") + shown()
        self.assertEqual(answers(calls), [1, -1, 4, 1, 1, 0, 0, 3, 1, 0, 0, 1, -2, 1, 0, 3, 0, 2, 0,
                                          13, 12] + list(b"box A 5 3 ;\n"))

    def test_what_is_handed_in_stays(self):
        calls = load(SQUARE) + put(0, [1, 0]) + put(1, [0, 0]) + rank(0) + pairs(0) + crossings() + shown()
        before = list(calls)
        first = answers(calls)
        self.assertEqual(calls, before)
        self.assertEqual(answers(calls), first)
        self.assertEqual(calls, before)

    def test_nothing_is_kept_from_one_time_to_the_next(self):
        answers(load(SQUARE) + put(0, [1, 0]))
        self.assertEqual(answers(crossings()), [1, -1])
        self.assertEqual(run(load(SQUARE), crossings())[1], [4, 4])

    def test_an_answer_can_be_changed_without_harm(self):
        calls = load(SQUARE) + shown() + rank(0)
        first = answers(calls)
        kept = list(first)
        first.clear()
        self.assertEqual(answers(calls), kept)

    def test_whole_numbers_in_a_list(self):
        found = answers(load(SQUARE) + shown() + rank(0) + crossings() + pairs(0) + put(0, [1, 0]) + load("!") + rank(9))
        self.assertIs(type(found), list)
        self.assertEqual({type(number) for number in found}, {int})

    def test_nothing_is_printed(self):
        out, err = io.StringIO(), io.StringIO()
        with contextlib.redirect_stdout(out), contextlib.redirect_stderr(err):
            answers(load(SQUARE) + shown() + load("!") + rank(7))
        self.assertEqual((out.getvalue(), err.getvalue()), ("", ""))

    def test_a_hundred_calls(self):
        self.assertEqual(run(*[load(SQUARE)] * 50, *[put(0, [1, 0])] * 50),
                         [[1, 2, 0, 4]] * 50 + [[1], [4]] * 25)

    def test_long_inputs_are_gone_through_by_loops(self):
        names = [f"b{number}" for number in range(24)]
        way = "".join(f"box {name};" for name in names)
        way += "".join(f"edge {a}->{b};" for a, b in zip(names, names[1:] + names[:1])) + "edge b0->b23;" * 16
        calls = load("\n" * 4096) + load("#\n" * 2048) + load("9" * 4096) + load("a" * 4096) + load(way) + shown()
        limit = sys.getrecursionlimit()
        sys.setrecursionlimit(len(inspect.stack()) + 40)
        try:
            found = answers(calls)
        finally:
            sys.setrecursionlimit(limit)
        self.assertEqual(found[:18], [4, 1, 0, 0, 0, 4, 1, 0, 0, 0, 3, 0, 2, 0, 3, 0, 2, 0])
        self.assertEqual(found[18:21], [4, 1, 24])


if __name__ == "__main__":
    unittest.main()
