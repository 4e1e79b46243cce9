"""swaps, settle, anew."""

import random
import unittest

from tests.helper import (
    Model, anew, best, boxes, crossings, edges, load, made_changes, made_orders, made_texts, made_zigzag, middle,
    named_rows, pairs, put, rank, rows_of, run, settle, shown, swaps, sweep,
)


class Swaps(unittest.TestCase):

    def test_one_is_swapped_on_step_by_step(self):
        text = boxes("ABCDWXYZ") + edges("AZ BW CX DY")
        self.assertEqual(run(load(text), swaps()), [[1, 2, 0, 3], [0, 3]])
        self.assertEqual(named_rows(text, swaps()), [["B", "C", "D", "A"], ["W", "X", "Y", "Z"]])

    def test_to_the_left_one_goes_one_step_a_pass(self):
        # D can go no further than ahead of C; rank 1 then moves W behind the two whose boxes stand ahead of D.
        text = boxes("ABCDWXYZ") + edges("AX BY CZ DW")
        self.assertEqual(run(load(text), swaps()), [[1, 2, 0, 3], [0, 3]])
        self.assertEqual(named_rows(text, swaps()), [["A", "B", "D", "C"], ["X", "Y", "W", "Z"]])

    def test_a_pass_that_swaps_nothing(self):
        text = boxes("ABXY") + edges("AX BY AY")
        self.assertEqual(run(load(text), swaps(), swaps()), [[1, 2, 0, 0], [0, 0], [0, 0]])
        self.assertEqual(named_rows(text, swaps()), [["A", "B"], ["X", "Y"]])

    def test_as_many_crossings_are_no_reason(self):
        text = boxes("ABXY") + edges("AX AY BX BY")
        self.assertEqual(run(load(text), swaps()), [[1, 2, 0, 1], [1, 0]])
        self.assertEqual(named_rows(text, swaps()), [["A", "B"], ["X", "Y"]])

    def test_none_is_swapped_without_crossings(self):
        text = boxes("ABC") + "above A B;above A C;"
        self.assertEqual(run(load(text), put(1, [1, 0]), swaps(), rank(1))[2:], [[0, 0], [2, 0, 2, 0, 1]])

    def test_crossings_above_and_below_count(self):
        # X and Y cross above. A and B stay, as each holds an outer box of rank 1 in its place.
        top = boxes("ABWXYZPQ") + edges("AW AY BX BZ")
        for below, answer, row in (
                ("", [0, 1], "WYXZ"), ("XP YQ", [1, 0], "WXYZ"), ("XP YQ YQ", [1, 0], "WXYZ"),
                ("XQ YP", [0, 1], "WYXZ"), ("XP XQ YP YQ", [1, 1], "WYXZ")):
            found = run(load(top + edges(below) + "above W P;above W Q;"), swaps())
            self.assertEqual(found[1], answer, below)
            self.assertEqual(named_rows(top + edges(below) + "above W P;above W Q;", swaps())[1], list(row), below)

    def test_crossings_below_alone(self):
        text = boxes("ABXYPQ") + edges("AX AY XP XP YQ YQ")
        self.assertEqual(run(load(text), put(2, [1, 0]), swaps(), rank(1))[1:], [[4], [0, 1], [2, 0, 3, 0, 2]])

    def test_swaps_of_all_ranks_are_counted(self):
        # Two on rank 0 (A goes behind B and C), then one on rank 2.
        text = boxes("ABCXYZPQ") + edges("AZ BX CY XQ ZP")
        self.assertEqual(run(load(text), swaps()), [[1, 3, 0, 3], [0, 3]])
        self.assertEqual(named_rows(text, swaps()), [["B", "C", "A"], ["X", "Y", "Z"], ["Q", "P"]])

    def test_each_rank_as_those_before_it_are_then(self):
        # Once A and B are swapped, C and D have no reason to be.
        text = boxes("ABCD") + edges("AD BC")
        self.assertEqual(run(load(text), swaps()), [[1, 2, 0, 1], [0, 1]])
        self.assertEqual(named_rows(text, swaps()), [["B", "A"], ["C", "D"]])

    def test_passing_places_are_swapped_too(self):
        # On rank 1 the passing place of A -> E goes ahead of F, then of C; A and B stay, as D and F hold them.
        text = boxes("ABDCFE") + edges("AD AE BC BF CE DE")
        self.assertEqual(named_rows(text), [["A", "B"], ["D", "C", "F", 1], ["E"]])
        self.assertEqual(run(load(text), swaps(), swaps(), swaps()), [[1, 3, 1, 2], [1, 1], [0, 1], [0, 0]])
        self.assertEqual(named_rows(text, swaps()), [["A", "B"], ["D", "C", 1, "F"], ["E"]])
        self.assertEqual(named_rows(text, swaps(), swaps()), [["A", "B"], ["D", 1, "C", "F"], ["E"]])

    def test_as_the_model_says(self):
        source = random.Random(301)
        for text in made_texts(source, 40):
            model = Model(text)
            changes = made_orders(source, model.rows)
            rows = rows_of(text, *changes)
            for step in range(3):
                rows, made = model.passed(rows)
                changes.append(swaps())
                self.assertEqual(run(load(text), *changes)[-1], [model.crossings(rows)[0], made])
                self.assertEqual(rows_of(text, *changes), rows)


class Settle(unittest.TestCase):

    def test_already_without_crossings(self):
        # X, Y have the same middle, P none: whatever order these have is left as it is.
        text = boxes("ABPXYQ") + edges("AX AY AQ BQ") + "above A P;"
        for calls in ([], [put(1, [0, 2, 1, 3])], [put(1, [1, 2, 0, 3])]):
            found = run(load(text), *calls, crossings(), settle())
            self.assertEqual(found[-2:], [[0, 0], [0, 0]])
            self.assertEqual(rows_of(text, *calls, settle()), rows_of(text, *calls))

    def test_of_the_fewest_the_order_that_there_was(self):
        # Sweeps change the order, and leave one crossing each time.
        text = boxes("EBACD") + edges("BC AB DE BE CD AD")
        counts = run(load(text), *[sweep(d) for d in (0, 1) * 4])
        self.assertEqual(counts, [[1, 5, 4, 1]] + [[1]] * 8)
        self.assertNotEqual(rows_of(text, sweep(0), sweep(1)), rows_of(text))
        self.assertEqual(run(load(text), settle())[1], [1, 1])
        self.assertEqual(rows_of(text, settle()), rows_of(text))

    def test_of_the_fewest_the_first_sweep(self):
        text = boxes("EACBD") + edges("CE AC AE BC CD BE")
        counts = run(load(text), *[sweep(d) for d in (0, 1) * 4])
        self.assertEqual([answer[-1] for answer in counts], [3] + [1] * 8)
        self.assertNotEqual(rows_of(text, sweep(0)), rows_of(text, *[sweep(d) for d in (0, 1) * 4]))
        self.assertEqual(run(load(text), settle())[1], [1, 3])
        self.assertEqual(rows_of(text, settle()), rows_of(text, sweep(0)))

    def test_of_the_fewest_a_later_sweep(self):
        text = boxes("ABDEC") + edges("AD AC AE AE DE BC AE CD AC")
        counts = run(load(text), *[sweep(d) for d in (0, 1) * 4])
        self.assertEqual([answer[-1] for answer in counts], [4, 3, 2, 2, 1, 1, 1, 1, 1])
        self.assertEqual(run(load(text), settle())[1], [1, 4])
        self.assertEqual(rows_of(text, settle()), rows_of(text, *[sweep(d) for d in (0, 1) * 2]))

    def test_the_fourth_sweep_up_counts_and_no_fifth_is_made(self):
        source = random.Random(302)
        eighth = ninth = 0
        for number in range(60):
            text = made_zigzag(source, 24)
            found = run(load(text), *[sweep(d) for d in (0, 1) * 5])
            counts = [answer[-1] for answer in found]
            eighth += counts.index(min(counts[:9])) == 8
            ninth += min(counts) < min(counts[:9])
            model = Model(text)
            wanted = model.settled(model.rows)
            self.assertEqual(rows_of(text, settle()), wanted)
        self.assertGreater(eighth, 0)
        self.assertGreater(ninth, 0)

    def test_passes_until_one_swaps_nothing(self):
        # No sweep makes it better; then two passes swap something, a third one nothing.
        text = boxes("EAGCBFD") + edges("CD EG AF CG AD BF AF FG")
        found = run(load(text), *[sweep(d) for d in (0, 1) * 4])
        self.assertEqual([answer[-1] for answer in found], [3] * 9)
        passes = run(load(text), *[swaps()] * 4)[1:]
        self.assertEqual([answer[1] > 0 for answer in passes], [True, True, False, False])
        self.assertEqual(run(load(text), settle())[1], [passes[-1][0], 3])
        self.assertEqual(rows_of(text, settle()), rows_of(text, swaps(), swaps()))

    def test_twice(self):
        source = random.Random(303)
        for text in made_texts(source, 60):
            changes = made_orders(source, rows_of(text))
            found = run(load(text), *changes, crossings(), settle(), settle(), crossings())[1 + len(changes):]
            self.assertEqual(found[1][1], found[0][0])
            self.assertEqual(found[2][1], found[1][0])
            self.assertEqual(found[3][0], found[2][0])
            self.assertLessEqual(found[1][0], found[1][1])
            self.assertLessEqual(found[2][0], found[2][1])

    def test_twice_without_crossings(self):
        text = boxes("ABCXYZ") + edges("AZ BY CX")
        self.assertEqual(run(load(text), settle(), settle())[1:], [[0, 3], [0, 0]])
        self.assertEqual(rows_of(text, settle()), rows_of(text, settle(), settle()))

    def test_a_pass_behind_it_swaps_nothing(self):
        source = random.Random(304)
        for text in made_texts(source, 60):
            found = run(load(text), settle(), swaps())
            self.assertEqual(found[2], [found[1][0], 0])

    def test_as_the_model_says(self):
        source = random.Random(305)
        for text in made_texts(source, 30):
            model = Model(text)
            changes = made_orders(source, model.rows)
            rows = rows_of(text, *changes)
            wanted = model.settled(rows)
            self.assertEqual(run(load(text), *changes, settle())[-1],
                             [model.crossings(wanted)[0], model.crossings(rows)[0]])
            self.assertEqual(rows_of(text, *changes, settle()), wanted)


class Anew(unittest.TestCase):

    def test_behind_each_call(self):
        text = boxes("ABCDEFG") + edges("AG AF BE CD DG CG BG AE")
        first = rows_of(text)
        for changes in ([put(0, [2, 1, 0]), put(1, [1, 0, 2, 3, 4, 5])], [sweep(0)], [sweep(1)], [swaps()], [settle()],
                        [best(0)], [best(1)]):
            self.assertNotEqual(rows_of(text, *changes), first, changes)
            self.assertEqual(rows_of(text, *changes, anew()), first, changes)
            found = run(load(text), *changes, anew(), crossings())
            self.assertEqual(found[-2], found[0][3:])
            self.assertEqual(found[-1][:1], found[0][3:])

    def test_the_first_order_stays_what_it_is(self):
        # What is made of the first order doesn't change it for the next time.
        source = random.Random(306)
        for text in made_texts(source, 40):
            first = rows_of(text)
            changes = [made_changes(source, first, 4) for turn in range(3)]
            calls = [call for turn in changes for call in turn + [anew()]]
            self.assertEqual(rows_of(text, *calls), first)
            self.assertEqual(run(load(text), *calls)[-1], run(load(text))[0][3:])

    def test_of_the_diagram_held_last(self):
        found = run(load(boxes("ABCD") + edges("AD BC")), load(boxes("AB")), put(0, [1, 0]), load("box"), anew(), rank(0))
        self.assertEqual(found[4:], [[0], [2, 0, 0, 0, 1]])


class AnyOrder(unittest.TestCase):
    """The calls of the first stage, for orders that the others make."""

    def test_as_the_model_says(self):
        source = random.Random(307)
        for text in made_texts(source, 40):
            model = Model(text)
            rows = [list(row) for row in model.rows]
            calls = [load(text)]
            wanted = [model.loaded()]
            for change in made_changes(source, rows, 5):
                rows, answer = changed(model, change, rows)
                k = source.randrange(len(rows))
                calls += [change, rank(k), crossings(), shown()]
                wanted += [answer, [len(rows[k])] + [n for item in rows[k] for n in item], model.crossings(rows),
                           [len(model.form())] + list(model.form().encode())]
                for channel in range(min(len(rows) - 1, 3)):
                    crossing = model.pairs(channel, rows)
                    calls.append(pairs(channel))
                    wanted.append([len(crossing)] + [edge for pair in crossing for edge in pair])
                near = model.near(k, 1, rows)[0]
                calls.append(middle(k, 0, 1))
                wanted.append([len(near), sum(near)])
            self.assertEqual(run(*calls), wanted)


def changed(model, call, rows):
    """The rows and the answer behind a call, by the model."""
    k = call[1] if len(call) > 1 else None
    if call[0] == 11 and len(rows[k]) > 6:
        return rows, [-6]
    before = model.crossings(rows)[0]
    more = []
    if call[0] == 5:
        rows = rows[:k] + [[rows[k][place] for place in call[3:]]] + rows[k + 1:]
    elif call[0] == 6:
        rows = model.swept(call[1], rows)
    elif call[0] == 7:
        rows, made = model.passed(rows)
        more = [made]
    elif call[0] == 8:
        rows = model.settled(rows)
        more = [before]
    elif call[0] == 9:
        rows = model.rows
    else:
        rows = model.with_best(k, rows)
    return rows, [model.crossings(rows)[0]] + more


if __name__ == "__main__":
    unittest.main()
