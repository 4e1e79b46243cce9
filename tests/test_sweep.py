"""middle, and sweep, which orders ranks by middles."""

import random
import unittest

from tests.helper import (
    FAR, Model, boxes, crossings, edges, load, made_changes, made_texts, middle, named_rows, pairs, put, rank, rows_of,
    run, shown, sweep,
)

# Rank 0: A, B, C. Rank 1: D, E, F and the passing place of edge 5. Rank 2: G, H.
LAYERS = boxes("ABCDEFGH") + edges("AD BD CD AE CE AG EG") + "above A F;above D H;"


class Middle(unittest.TestCase):

    def test_the_rank_it_speaks_of(self):
        self.assertEqual(named_rows(LAYERS), [["A", "B", "C"], ["D", "E", "F", 5], ["G", "H"]])

    def test_none_one_and_several(self):
        self.assertEqual(run(load(LAYERS), middle(1, 0, 0), middle(1, 1, 0), middle(1, 2, 0), middle(1, 3, 0))[1:],
                         [[3, 3], [2, 2], [0, 0], [1, 0]])
        self.assertEqual(run(load(LAYERS), middle(1, 0, 1), middle(1, 1, 1), middle(1, 2, 1), middle(1, 3, 1))[1:],
                         [[0, 0], [1, 0], [0, 0], [1, 0]])
        self.assertEqual(run(load(LAYERS), middle(0, 0, 1), middle(0, 1, 1), middle(0, 2, 1))[1:],
                         [[3, 4], [1, 0], [2, 1]])
        self.assertEqual(run(load(LAYERS), middle(2, 0, 0), middle(2, 1, 0))[1:], [[2, 4], [0, 0]])

    def test_neighbours_as_they_stand_now(self):
        found = run(load(LAYERS), put(0, [2, 1, 0]), middle(1, 1, 0), middle(1, 3, 0), put(1, [3, 2, 1, 0]),
                    middle(1, 2, 0), middle(1, 0, 0), middle(0, 2, 1), middle(2, 0, 0))
        self.assertEqual(found[2:4] + found[5:], [[2, 2], [1, 2], [2, 2], [1, 2], [3, 5], [2, 2]])

    def test_nothing_above_the_first_nor_below_the_last_rank(self):
        asked = [middle(0, i, 0) for i in range(3)] + [middle(2, i, 1) for i in range(2)]
        self.assertEqual(run(load(LAYERS), *asked)[1:], [[0, 0]] * 5)

    def test_a_neighbour_as_often_as_pieces_stand_there(self):
        text = boxes("ABC") + edges("BC BC BC AC")
        self.assertEqual(run(load(text), middle(1, 0, 0), middle(0, 1, 1), middle(0, 0, 1))[1:],
                         [[4, 3], [3, 0], [1, 0]])

    def test_a_turned_edge_counts_as_it_goes_down(self):
        text = boxes("ABC") + "above A C;above B C;" + edges("CB")
        self.assertEqual(run(load(text), middle(1, 0, 0), middle(0, 1, 1), middle(0, 0, 1))[1:], [[1, 1], [1, 0], [0, 0]])

    def test_a_passing_place_between_passing_places(self):
        text = boxes("ABCD") + edges("AB BC CD AD")
        self.assertEqual(run(load(text), middle(1, 1, 0), middle(1, 1, 1), middle(2, 1, 0), middle(2, 1, 1))[1:],
                         [[1, 0], [1, 1], [1, 1], [1, 0]])

    def test_no_such_rank(self):
        for k in (-FAR, -1, 3, 4, FAR):
            for i in (0, -1, 9, FAR):
                for s in (0, 1, 2, -1):
                    self.assertEqual(run(load(LAYERS), middle(k, i, s))[1], [-2])

    def test_no_such_place(self):
        for k, count in enumerate((3, 4, 2)):
            for i in (-FAR, -1, count, count + 1, FAR):
                for s in (0, 1, 2, -1, FAR, -FAR):
                    self.assertEqual(run(load(LAYERS), middle(k, i, s))[1], [-5])
            self.assertEqual(len(run(load(LAYERS), middle(k, count - 1, 0))[1]), 2)

    def test_neither_above_nor_below(self):
        for s in (-FAR, -1, 2, 3, FAR):
            self.assertEqual(run(load(LAYERS), middle(0, 0, s), middle(1, 3, s), middle(2, 1, s))[1:], [[-3]] * 3)

    def test_it_changes_nothing(self):
        asked = [rank(0), rank(1), rank(2), crossings(), shown()]
        found = run(load(LAYERS), put(1, [1, 0, 3, 2]), *asked, middle(1, 0, 0), middle(1, 9, 0), middle(1, 0, 2),
                    middle(3, 0, 0), *asked)
        self.assertEqual(found[2:7], found[11:])

    def test_as_the_model_says(self):
        source = random.Random(201)
        for text in made_texts(source, 60):
            model = Model(text)
            changes = made_changes(source, model.rows, 3)
            rows = rows_of(text, *changes)
            for s in (0, 1):
                places = [(k, i) for k, row in enumerate(rows) for i in range(len(row))]
                places = source.sample(places, min(len(places), 60))
                found = run(load(text), *changes, *[middle(k, i, s) for k, i in places])[1 + len(changes):]
                near = [model.near(k, s, rows) for k in range(len(rows))]
                self.assertEqual(found, [[len(near[k][i]), sum(near[k][i])] for k, i in places])


class Sweep(unittest.TestCase):

    def test_down(self):
        text = boxes("ABCXYZ") + edges("AZ BY CX")
        self.assertEqual(run(load(text), sweep(0)), [[1, 2, 0, 3], [0]])
        self.assertEqual(named_rows(text, sweep(0)), [["A", "B", "C"], ["Z", "Y", "X"]])

    def test_up(self):
        text = boxes("ABCXYZ") + edges("AZ BY CX")
        self.assertEqual(run(load(text), sweep(1)), [[1, 2, 0, 3], [0]])
        self.assertEqual(named_rows(text, sweep(1)), [["C", "B", "A"], ["X", "Y", "Z"]])

    def test_what_has_no_neighbours_above_stays(self):
        text = boxes("ABCPQRS") + edges("CP BR AS") + "above A Q;"
        self.assertEqual(named_rows(text, sweep(0))[1], ["S", "Q", "R", "P"])
        text = boxes("ABPQRST") + edges("BQ AS") + "above A P;above A R;above A T;"
        self.assertEqual(named_rows(text, sweep(0))[1], ["P", "S", "R", "Q", "T"])

    def test_what_has_no_neighbours_below_stays(self):
        text = boxes("PQRSABC") + edges("PC RB SA")
        self.assertEqual(named_rows(text, sweep(1))[0], ["S", "Q", "R", "P"])
        text = boxes("PQRSTAB") + edges("QB SA")
        self.assertEqual(named_rows(text, sweep(1))[0], ["P", "S", "R", "Q", "T"])

    def test_neighbours_on_the_other_side_do_not_count(self):
        # C has neighbours below alone: a sweep down leaves it between the others.
        text = boxes("ABDCEFG") + edges("AE BD CG EF") + "above A C;"
        self.assertEqual(named_rows(text)[1], ["D", "C", "E"])
        self.assertEqual(named_rows(text, sweep(0))[1], ["E", "C", "D"])

    def test_no_neighbours_at_all(self):
        text = boxes("ABC") + "above A B;above A C;"
        for d in (0, 1):
            self.assertEqual(named_rows(text, put(1, [1, 0]), sweep(d)), [["A"], ["C", "B"]])

    def test_of_the_same_middle_those_first_that_stood_first(self):
        text = boxes("ABCPQRS") + edges("AP CP BQ AR BS")
        self.assertEqual(named_rows(text, sweep(0))[1], ["R", "P", "Q", "S"])
        self.assertEqual(named_rows(text, put(1, [3, 2, 1, 0]), sweep(0))[1], ["R", "S", "Q", "P"])
        self.assertEqual(named_rows(text, put(1, [1, 3, 0, 2]), sweep(0))[1], ["R", "Q", "S", "P"])

    def test_of_the_same_middle_in_a_sweep_up(self):
        text = boxes("PQRABC") + edges("PA PC QB RA")
        self.assertEqual(named_rows(text, sweep(1))[0], ["R", "P", "Q"])
        self.assertEqual(named_rows(text, put(0, [1, 0, 2]), sweep(1))[0], ["R", "Q", "P"])

    def test_middles_that_are_the_same_fraction(self):
        # P: 2 of 4, Q: 1 of 2, R: 0 of 1.
        text = boxes("ABPQR") + edges("AP AP BP BP AQ BQ AR")
        asked = [middle(1, i, 0) for i in range(3)]
        self.assertEqual(run(load(text), *asked)[1:], [[4, 2], [2, 1], [1, 0]])
        self.assertEqual(named_rows(text, sweep(0))[1], ["R", "P", "Q"])
        self.assertEqual(named_rows(text, put(1, [1, 0, 2]), sweep(0))[1], ["R", "Q", "P"])

    def test_middles_between_the_same_whole_numbers(self):
        # P: 3 of 4, Q: 2 of 3, R: 1 of 2, S: 1 of 3.
        text = boxes("ABPQRS") + edges("AP BP BP BP AQ BQ BQ AR BR AS AS BS")
        self.assertEqual(run(load(text), *[middle(1, i, 0) for i in range(4)])[1:], [[4, 3], [3, 2], [2, 1], [3, 1]])
        self.assertEqual(named_rows(text, sweep(0))[1], ["S", "R", "Q", "P"])

    def test_the_sum_alone_says_nothing(self):
        # P: 3 of 3, Q: 2 of 1: the greater sum has the less middle.
        text = boxes("ABCPQ") + edges("AP BP CP CQ")
        self.assertEqual(named_rows(text, put(1, [1, 0]), sweep(0))[1], ["P", "Q"])

    def test_two_edges_between_the_same_boxes(self):
        # P's middle is 3 of 3; if A counted once, it were 3 of 2, the same as Q's.
        text = boxes("ABCDQP") + edges("AP AP DP BQ CQ")
        self.assertEqual(run(load(text), middle(1, 0, 0), middle(1, 1, 0))[1:], [[2, 3], [3, 3]])
        self.assertEqual(named_rows(text, sweep(0))[1], ["P", "Q"])

    def test_each_rank_by_what_those_before_it_are_then(self):
        text = boxes("ABCDEF") + edges("AD BC CE DF")
        self.assertEqual(named_rows(text, sweep(0)), [["A", "B"], ["D", "C"], ["F", "E"]])
        self.assertEqual(run(load(text), sweep(0))[1], [0])
        text = boxes("ABCDEF") + edges("AC BD CF DE")
        self.assertEqual(named_rows(text, sweep(1)), [["B", "A"], ["D", "C"], ["E", "F"]])
        self.assertEqual(run(load(text), sweep(1))[1], [0])

    def test_passing_places_are_ordered_too(self):
        text = boxes("ABCD") + edges("BC CD AD AC")
        self.assertEqual(named_rows(text), [["A", "B"], ["C", 2], ["D"]])
        self.assertEqual(named_rows(text, sweep(0)), [["A", "B"], [2, "C"], ["D"]])
        self.assertEqual(named_rows(text, sweep(1)), [["B", "A"], ["C", 2], ["D"]])

    def test_crossings_can_become_more(self):
        text = boxes("BCDA") + edges("AD AC BC CD BC AB AD AC BC")
        self.assertEqual(run(load(text), sweep(0), sweep(1)), [[1, 4, 6, 3], [4], [0]])

    def test_neither_down_nor_up(self):
        asked = [rank(0), rank(1), rank(2), crossings(), pairs(0), shown()]
        for d in (2, 3, -1, -2, FAR, -FAR):
            found = run(load(LAYERS), put(1, [3, 1, 2, 0]), *asked, sweep(d), *asked)
            self.assertEqual(found[8], [-3], d)
            self.assertEqual(found[2:8], found[9:])

    def test_as_the_model_says(self):
        source = random.Random(202)
        for text in made_texts(source, 100):
            model = Model(text)
            rows = [source.sample(row, len(row)) for row in model.rows]
            calls = [put(k, [model.rows[k].index(item) for item in row]) for k, row in enumerate(rows)]
            for d in (0, 1, 0, 1, 1, 0, 0):
                rows = model.swept(d, rows)
                calls.append(sweep(d))
                self.assertEqual(run(load(text), *calls)[-1], model.crossings(rows)[:1])
                self.assertEqual(rows_of(text, *calls), rows)


if __name__ == "__main__":
    unittest.main()
