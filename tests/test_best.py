"""best: the best order of a rank."""

import itertools
import random
import unittest

from tests.helper import (
    FAR, Model, best, boxes, crossings, edges, load, made_changes, made_text, named_rows, put, rank, rows_of, run,
    settle, shown, swaps, sweep,
)

# Six boxes above six, all the way round: the best order of either rank is its mirror.
MIRROR = boxes("ABCDEFUVWXYZ") + edges("AZ BY CX DW EV FU")


def made_rank(source, count):
    """A text whose rank 1 has so many places, between ranks 0 and 2; some of them passing places."""
    passing = source.randrange(0, count)
    lines = [f"box t{number};box e{number};" for number in range(3)]
    lines += [f"box m{number};" for number in range(count - passing)]
    # t0 -> m0 -> e0 and the wishes hold the ranks as they are told here.
    lines += ["above t1 m0;above t2 m0;above m0 e1;above m0 e2;edge t0->m0;edge m0->e0;"]
    for number in range(1, count - passing):
        lines += [f"above t0 m{number};above m{number} e0;"]
        lines += [f"edge t{source.randrange(3)}->m{number};edge m{number}->e{source.randrange(3)};"] * source.randrange(3)
    lines += [f"edge t{source.randrange(3)}->e{source.randrange(3)};" for number in range(passing)]
    source.shuffle(lines)
    return "".join(lines)


class Best(unittest.TestCase):

    def test_one_place(self):
        self.assertEqual(run(load(boxes("A")), best(0), rank(0))[1:], [[0], [1, 0, 0]])

    def test_two_places(self):
        text = boxes("ABCD") + edges("AD BC")
        self.assertEqual(run(load(text), best(0)), [[1, 2, 0, 1], [0]])
        self.assertEqual(named_rows(text, best(0)), [["B", "A"], ["C", "D"]])
        self.assertEqual(named_rows(text, best(1)), [["A", "B"], ["D", "C"]])

    def test_six_places(self):
        self.assertEqual(run(load(MIRROR), best(0), best(1)), [[1, 2, 0, 15], [0], [0]])
        self.assertEqual(named_rows(MIRROR, best(0)), [list("FEDCBA"), list("UVWXYZ")])
        self.assertEqual(named_rows(MIRROR, best(1)), [list("ABCDEF"), list("ZYXWVU")])

    def test_above_and_below_count(self):
        # Above X and Y cross once; below they would cross twice.
        text = boxes("ABXYPQ") + edges("AY BX XP YQ YQ")
        self.assertEqual(run(load(text), best(1), rank(1))[1:], [[1], [2, 0, 2, 0, 3]])
        self.assertEqual(run(load(text), put(1, [1, 0]), best(1), rank(1))[1:], [[2], [1], [2, 0, 2, 0, 3]])

    def test_the_other_ranks_stay(self):
        text = boxes("ABCDEF") + edges("AD BC CE DF")
        self.assertEqual(run(load(text), best(1))[1], [1])
        self.assertEqual(named_rows(text, best(1)), [["A", "B"], ["C", "D"], ["E", "F"]])
        self.assertEqual(named_rows(text, best(2)), [["A", "B"], ["C", "D"], ["E", "F"]])
        self.assertEqual(named_rows(text, best(0)), [["B", "A"], ["C", "D"], ["E", "F"]])

    def test_crossings_of_other_channels_are_answered_too(self):
        text = boxes("ABCDEFGH") + edges("AD BC CE DF EH FG")
        self.assertEqual(run(load(text), best(0), best(3), crossings()), [[1, 4, 0, 2], [1], [0], [0, 0, 0, 0]])

    def test_the_order_that_it_has_stays_if_it_is_among_the_best(self):
        text = boxes("ABXY") + edges("AX AY BX BY")
        for order in ([0, 1], [1, 0]):
            self.assertEqual(run(load(text), put(1, order), rank(1), best(1), rank(1))[2:],
                             [[2, 0, order[0] + 2, 0, order[1] + 2], [1], [2, 0, order[0] + 2, 0, order[1] + 2]])
        text = boxes("ABCDEF")
        for order in itertools.islice(itertools.permutations(range(6)), 0, None, 97):
            self.assertEqual(run(load(text), put(0, order), best(0), rank(0))[2:],
                             [[0], [6] + [number for box in order for number in (0, box)]])

    def test_else_the_first_one(self):
        # C has to stand ahead of A, B may stand anywhere: of 1 2 0, 2 0 1, 2 1 0 the first one.
        text = boxes("ABCPQ") + edges("AQ CP")
        self.assertEqual(named_rows(text, best(0))[0], ["B", "C", "A"])

    def test_the_first_one_by_places_as_they_stand_now(self):
        # A C B: of 1 0 2, 1 2 0, 2 1 0 the first one. B A C: of 0 2 1, 2 0 1, 2 1 0. C B A and others stay.
        text = boxes("ABCPQ") + edges("AQ CP")
        for order, row in (([0, 2, 1], "CAB"), ([1, 0, 2], "BCA"), ([2, 1, 0], "CBA"), ([2, 0, 1], "CAB"),
                           ([1, 2, 0], "BCA")):
            self.assertEqual(named_rows(text, put(0, order), best(0))[0], list(row))

    def test_places_that_have_no_pieces(self):
        text = boxes("ABCDEFPQ") + edges("AQ FP")
        self.assertEqual(named_rows(text, best(0))[0], list("BCDEFA"))

    def test_two_edges_between_the_same_boxes(self):
        # Each edge counts: A's two to Z weigh more than B's one.
        text = boxes("ABYZ") + edges("AZ AZ BY BZ AY AY BZ")
        model = Model(text)
        self.assertEqual(rows_of(text, best(0)), model.with_best(0, model.rows))
        text = boxes("ABYZ") + edges("AY AZ AZ BY BZ")
        self.assertEqual(run(load(text), best(0), rank(0)), [[1, 2, 0, 2], [1], [2, 0, 1, 0, 0]])

    def test_ranks_of_one_to_six_places_against_all_orders(self):
        source = random.Random(401)
        for count in (1, 2, 3, 4, 5, 6):
            for turn in range(8 if count < 6 else 4):
                text = made_rank(source, count)
                model = Model(text)
                self.assertEqual(len(model.rows[1]), count)
                order = source.sample(range(count), count)
                rows = rows_of(text, put(1, order), put(0, [2, 0, 1]))
                calls = [put(1, order), put(0, [2, 0, 1]), best(1)]
                orders = list(itertools.permutations(range(count)))
                counts = [model.crossings([rows[0], [rows[1][place] for place in one], rows[2]])[0] for one in orders]
                wanted = orders[0] if counts[0] == min(counts) else orders[counts.index(min(counts))]
                self.assertEqual(run(load(text), *calls)[-1], [min(counts)])
                self.assertEqual(rows_of(text, *calls), [rows[0], [rows[1][place] for place in wanted], rows[2]])

    def test_as_the_model_says(self):
        source = random.Random(402)
        for turn in range(60):
            text = made_text(source, source.randrange(4, 12), source.randrange(3, 14), source.randrange(3), turn % 2 == 0)
            model = Model(text)
            changes = made_changes(source, model.rows, 3)
            rows = rows_of(text, *changes)
            short = [k for k, row in enumerate(rows) if len(row) <= 5]
            for k in short:
                rows = model.with_best(k, rows)
            changes += [best(k) for k in short]
            self.assertEqual(rows_of(text, *changes), rows)


class TooLong(unittest.TestCase):

    def test_seven_places(self):
        self.assertEqual(run(load(boxes("ABCDEF")), best(0))[1], [0])
        for names in ("ABCDEFG", "ABCDEFGH", "ABCDEFGHIJKLMNOPQRSTUVWX"):
            self.assertEqual(run(load(boxes(names)), best(0))[1], [-6])

    def test_passing_places_count(self):
        # On rank 1 stand C and five, then six passing places.
        text = boxes("ABCD") + edges("AC CD AD AD AD AD AD")
        self.assertEqual(run(load(text), rank(1), best(1))[1:], [[6, 0, 2, 1, 2, 1, 3, 1, 4, 1, 5, 1, 6], [0]])
        self.assertEqual(run(load(text + edges("AD")), best(1), best(0), best(2))[1:], [[-6], [0], [0]])

    def test_a_refusal_changes_nothing(self):
        text = boxes("ABCDEFGXY") + edges("AY BX CY DX EY FX GY")
        asked = [rank(0), rank(1), crossings(), shown()]
        found = run(load(text), put(0, [6, 5, 4, 3, 2, 1, 0]), *asked, best(0), best(2), best(-1), *asked)
        self.assertEqual(found[6:9], [[-6], [-2], [-2]])
        self.assertEqual(found[2:6], found[9:])

    def test_no_such_rank_is_ahead_of_too_many_places(self):
        for names in ("ABC", "ABCDEFGHI"):
            for k in (-FAR, -2, -1, 1, 2, FAR):
                self.assertEqual(run(load(boxes(names)), best(k))[1], [-2], k)
        for k in (-FAR, -1, 2, FAR):
            self.assertEqual(run(load(MIRROR), best(k))[1], [-2], k)
        self.assertEqual(run(load(""), best(0), best(-1), best(FAR))[1:], [[-2]] * 3)


class AfterOtherCalls(unittest.TestCase):

    def test_best_of_a_settled_order(self):
        source = random.Random(403)
        for turn in range(40):
            text = made_text(source, 12, 20, 0, False)
            rows = rows_of(text)
            for k in range(len(rows)):
                found = run(load(text), sweep(1), settle(), best(k), swaps(), best(k))[3:]
                if len(rows[k]) <= 6:
                    self.assertLessEqual(found[0][0], run(load(text), sweep(1), settle())[-1][0])
                    self.assertLessEqual(found[2][0], found[1][0])
                else:
                    self.assertEqual(found[0], [-6])


if __name__ == "__main__":
    unittest.main()
