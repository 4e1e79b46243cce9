"""Circles, turned edges, ranks, and the first order that follows from them."""

import random
import unittest

from crossings.ranks import move_boxes, wanted_rank, without_gaps
from tests.helper import Model, load, made_texts, model_load, named_rows, rows_of, run


def boxes(names):
    return "".join(f"box {name} ;" for name in names.split())


def edges(arcs):
    """Edges from pairs of names of one letter."""
    return "".join(f"edge {arc[0]} -> {arc[1]} ;" for arc in arcs.split())


def wishes(arcs):
    return "".join(f"above {arc[0]} {arc[1]} ;" for arc in arcs.split())


def ring(count):
    names = [f"b{number}" for number in range(count)]
    text = "".join(f"box {name} ;" for name in names)
    return text + "".join(f"edge {a} -> {b} ;" for a, b in zip(names, names[1:] + names[:1]))


class RankCase(unittest.TestCase):

    def assert_rows(self, text, rows):
        self.assertEqual(named_rows(text), rows)
        self.assertEqual(rows_of(text), Model(text).rows)
        self.assertEqual(run(load(text))[0], model_load(text))


class Circles(RankCase):

    def test_no_circle(self):
        self.assert_rows(boxes("A B C") + edges("AB BC AC"), [["A"], ["B", 2], ["C"]])

    def test_of_two_edges_the_first_is_turned(self):
        self.assert_rows(boxes("A B") + edges("AB BA"), [["B"], ["A"]])
        self.assert_rows(boxes("A B") + edges("BA AB"), [["A"], ["B"]])

    def test_a_ring_of_three(self):
        self.assert_rows(boxes("A B C") + edges("AB BC CA"), [["B"], ["C", 0], ["A"]])

    def test_the_least_set_is_not_the_first_edge(self):
        # B -> C alone stands on both circles.
        self.assert_rows(boxes("A B C D") + edges("AB BC CA CD DB"), [["C"], ["A", "D", 1], ["B"]])

    def test_fewer_before_lower_numbers(self):
        self.assert_rows(boxes("A B") + edges("AB AB BA"), [["A"], ["B"]])
        self.assert_rows(boxes("A B") + edges("AB AB BA BA"), [["B"], ["A"]])

    def test_the_first_of_several_least_sets(self):
        self.assert_rows(boxes("A B C D") + edges("AB BA CD DC"), [["B", "D"], ["A", "C"]])
        self.assert_rows(boxes("A B C D") + edges("AB CD DC BA"), [["B", "D"], ["A", "C"]])
        self.assert_rows(boxes("A B C D") + edges("CD BA AB DC"), [["A", "D"], ["B", "C"]])

    def test_the_first_number_that_differs_decides(self):
        # Both {0, 5} and {1, 2} would do, and none of {0, 1} to {0, 4}.
        text = boxes("A B C D") + edges("AB BA CD AD CB DC")
        self.assertEqual(Model(text).turned, (0, 5))
        self.assert_rows(text, [["C"], ["B", 2, 5], ["A", 2, 5], ["D"]])

    def test_wishes_stay(self):
        self.assert_rows(boxes("A B") + wishes("AB") + edges("BA"), [["A"], ["B"]])
        self.assert_rows(boxes("A B") + wishes("AB") + edges("BA BA AB"), [["A"], ["B"]])

    def test_a_circle_of_edges_and_wishes(self):
        self.assert_rows(boxes("A B C") + wishes("AB") + edges("BC CA"), [["C"], ["A", 0], ["B"]])
        self.assert_rows(boxes("A B C") + wishes("AB BC") + edges("CA"), [["A"], ["B", 0], ["C"]])

    def test_all_ten_edges_turned(self):
        self.assert_rows(boxes("A B") + wishes("AB") + edges("BA " * 10), [["A"], ["B"]])

    def test_ten_edges_on_a_circle(self):
        inner = [[f"b{number}", 0] for number in range(2, 10)]
        self.assert_rows(ring(10), [["b1"]] + inner + [["b0"]])

    def test_eleven_edges_on_a_circle(self):
        inner = [[f"b{number}", 10] for number in range(1, 10)]
        self.assert_rows(ring(11), [["b0"]] + inner + [["b10"]])

    def test_edges_beside_the_circle_do_not_count(self):
        text = ring(10) + "box c ; edge b0 -> c ; edge b0 -> c ;"
        self.assertEqual(Model(text).turned, (0,))
        self.assertEqual(named_rows(text)[0], ["b1"])
        self.assertEqual(rows_of(text), Model(text).rows)

    def test_wishes_on_the_circle_do_not_count(self):
        text = ring(10) + "box c ; above b3 c ; above c b4 ;"
        self.assertEqual(Model(text).turned, (0,))
        self.assertEqual(rows_of(text), Model(text).rows)

    def test_edges_between_the_same_boxes_count_each(self):
        self.assert_rows(boxes("A B") + edges("AB " * 5 + "BA " * 5), [["B"], ["A"]])
        self.assert_rows(boxes("A B") + edges("AB " * 5 + "BA " * 6), [["A"], ["B"]])
        self.assert_rows(boxes("A B") + edges("AB " * 4 + "BA " * 6), [["B"], ["A"]])

    def test_kept_edge_by_edge_beside_wishes(self):
        # Each of the eleven closes a circle with the wish, or is kept.
        self.assert_rows(boxes("A B") + edges("BA " * 9 + "AB " * 2) + wishes("AB"), [["A"], ["B"]])

    def test_turned_long_edges_pass_by_their_own_number(self):
        text = boxes("A B C D") + edges("AB BC CD DA DB") + wishes("AB BC CD")
        self.assertEqual(Model(text).turned, (3, 4))
        self.assert_rows(text, [["A"], ["B", 3], ["C", 3, 4], ["D"]])


class Ranks(RankCase):

    def test_boxes_alone(self):
        self.assert_rows(boxes("A B C"), [["A", "B", "C"]])

    def test_the_greatest_number_of_arcs(self):
        self.assert_rows(boxes("D C B A") + edges("AD AB BC CD"), [["A"], ["B", 0], ["C", 0], ["D"]])

    def test_wishes_rank_boxes_and_have_no_places(self):
        self.assert_rows(boxes("A B C") + wishes("AB BC AC"), [["A"], ["B"], ["C"]])
        self.assertEqual(run(load(boxes("A B C") + wishes("AB BC AC"))), [[1, 3, 0, 0]])

    def test_a_box_goes_down(self):
        self.assert_rows(boxes("A B C D") + edges("AB BC DC"), [["A"], ["B", "D"], ["C"]])

    def test_wishes_do_not_say_which_way(self):
        self.assert_rows(boxes("A B C D") + edges("AB BC") + wishes("DC"), [["A", "D"], ["B"], ["C"]])

    def test_wishes_say_how_far(self):
        # D would go down to the rank of C, were it not above B.
        self.assert_rows(boxes("A B C E D") + edges("AB BC CE DE") + wishes("DB"),
                         [["A", "D"], ["B", 3], ["C", 3], ["E"]])

    def test_as_many_in_as_out_stays(self):
        # F could go down to the rank of C, and E then to that of B.
        self.assert_rows(boxes("F E A B C D") + edges("AB BC CD EF FD"), [["E", "A"], ["F", "B"], ["C", 4], ["D"]])

    def test_more_in_than_out_stays_as_high_as_it_is(self):
        self.assert_rows(boxes("A B C D E") + edges("AB BC CD AE"), [["A"], ["B", "E"], ["C"], ["D"]])

    def test_edges_between_the_same_boxes_count_each(self):
        # B has two edges in and three out, so it goes down; with one less it stays.
        chain = boxes("A B P Q R C") + edges("PQ QR RC AB AB BC BC")
        self.assert_rows(chain, [["A", "P"], ["B", "Q"], ["R", 5, 6], ["C"]])
        self.assert_rows(chain + edges("BC"), [["P"], ["A", "Q"], ["B", "R"], ["C"]])

    def test_a_second_pass(self):
        # A stays in the first pass, for B goes down behind it; named behind B it goes at once.
        rest = edges("AB BC BD PQ QR RS SC SD")
        rows = [["P"], ["Q"], ["A", "R"], ["B", "S"], ["C", "D"]]
        self.assert_rows(boxes("A B P Q R S C D") + rest, rows)
        self.assert_rows(boxes("B A P Q R S C D") + rest, rows)

    def test_a_pass_for_each_box_of_a_way(self):
        # From the last to the first, a box goes down in each pass.
        rest = edges("AB BC BC CD CD CD DZ DZ DZ DZ PQ QR RS ST TU UZ")
        text = boxes("A B C D P Q R S T U Z") + rest
        self.assert_rows(text, [["P"], ["Q"], ["A", "R"], ["B", "S"], ["C", "T"], ["D", "U"], ["Z"]])

    def test_turned_edges_count_as_they_go_down(self):
        # The edge from A to B is turned, so one goes out of B, and it goes down to right above A.
        text = boxes("A B P Q") + edges("AB BA PQ QA")
        self.assertEqual(Model(text).turned, (0,))
        self.assert_rows(text, [["P"], ["B", "Q"], ["A"]])


class Places(RankCase):

    def test_boxes_in_the_order_of_the_text_then_edges_in_theirs(self):
        text = edges("AD AC AD") + boxes("D C B A E") + edges("AB BC CD EB EC")
        self.assert_rows(text, [["A", "E"], ["B", 0, 1, 2, 7], ["C", 0, 2], ["D"]])
        self.assertEqual(run(load(text))[0][:3], [1, 4, 6])

    def test_an_edge_of_length_one_has_none(self):
        self.assertEqual(run(load(boxes("A B") + edges("AB AB"))), [[1, 2, 0, 0]])

    def test_the_longest_way(self):
        names = [f"b{number}" for number in range(24)]
        text = "".join(f"box {name};" for name in names)
        text += "".join(f"edge {a}->{b};" for a, b in zip(names, names[1:])) + "edge b0->b23;" * 17
        self.assertEqual(run(load(text)), [[1, 24, 17 * 22, 0]])
        self.assertEqual(rows_of(text), Model(text).rows)


class Direct(unittest.TestCase):
    """Moves up and ranks without boxes: the first ranks are the least ones, so no diagram comes to these."""

    def test_up_to_one_rank_below_the_lowest(self):
        self.assertEqual(wanted_rank(2, [0, 1, 5], [(0, 2), (1, 2)], [(0, 2), (1, 2)]), 2)

    def test_wishes_say_how_far_up(self):
        self.assertEqual(wanted_rank(2, [0, 3, 5], [(0, 2)], [(0, 2), (1, 2)]), 4)

    def test_down_to_one_rank_above_the_highest(self):
        self.assertEqual(wanted_rank(0, [0, 4, 3], [(0, 1), (0, 2)], [(0, 1), (0, 2)]), 2)

    def test_stays(self):
        self.assertEqual(wanted_rank(1, [0, 2, 5], [(0, 1), (1, 2)], [(0, 1), (1, 2)]), 2)
        self.assertEqual(wanted_rank(1, [0, 2, 5], [], [(0, 1), (1, 2)]), 2)

    def test_box_by_box_each_by_what_those_before_it_are_then(self):
        ranks = [0, 0, 5]
        arcs = [(0, 1), (0, 2), (1, 2), (1, 2)]
        self.assertTrue(move_boxes(ranks, arcs, arcs))
        self.assertEqual(ranks, [-1, 4, 5])
        self.assertTrue(move_boxes(ranks, arcs, arcs))
        self.assertEqual(ranks, [3, 4, 5])
        self.assertFalse(move_boxes(ranks, arcs, arcs))

    def test_ranks_without_boxes_are_taken_out(self):
        self.assertEqual(without_gaps([2, 7, 2, 4]), [0, 2, 0, 1])
        self.assertEqual(without_gaps([]), [])


class ManyDiagrams(unittest.TestCase):

    def test_all_as_the_model_says(self):
        sizes = {}
        for text in made_texts(random.Random(31), 400):
            model = Model(text)
            self.assertEqual(run(load(text))[0], model.loaded(), text)
            self.assertEqual(rows_of(text), model.rows, text)
            sizes[min(len(model.turned), 4)] = True
        self.assertEqual(sorted(sizes), [0, 1, 2, 3, 4])


if __name__ == "__main__":
    unittest.main()
