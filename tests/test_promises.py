"""The promises 1 to 6, for the first order and for orders that any call makes."""

import fractions
import itertools
import random
import unittest

from tests.helper import (
    FAR, Model, anew, best, crossings, load, made_changes, made_orders, made_texts, made_zigzag, middle, pairs, put,
    rank, rows_of, run, settle, swaps, sweep,
)


def orders(seed, count):
    """Texts with calls that make another order: none, puts for all ranks, or calls of all sorts."""
    source = random.Random(seed)
    for number, text in enumerate(made_texts(source, count)):
        rows = rows_of(text)
        yield text, ([], made_orders(source, rows), made_orders(source, rows) + made_changes(source, rows, 2),
                     made_changes(source, rows, 5))[number % 4]


def swapped_with_next(row, place):
    order = list(range(len(row)))
    order[place], order[place + 1] = place + 1, place
    return order


def counted_along(pieces, side):
    """Each piece crosses those before it, on this side, that end behind it."""
    other = 1 - side
    count = 0
    for piece in pieces:
        count += sum(one[side] < piece[side] and one[other] > piece[other] for one in pieces)
    return count


class FirstPromise(unittest.TestCase):

    def test_each_box_once_on_its_rank(self):
        for text, made in orders(51, 100):
            model = Model(text)
            rows = rows_of(text, *made)
            standing = sorted((number, k) for k, row in enumerate(rows) for sort, number in row if sort == 0)
            self.assertEqual(standing, list(enumerate(model.ranks)))

    def test_a_passing_place_on_each_rank_between(self):
        for text, made in orders(52, 100):
            model = Model(text)
            rows = rows_of(text, *made)
            passing = sorted((number, k) for k, row in enumerate(rows) for sort, number in row if sort == 1)
            between = [(e, k) for e, (a, b) in enumerate(model.down)
                       for k in range(model.ranks[a] + 1, model.ranks[b])]
            self.assertEqual(passing, between)
            self.assertEqual(run(load(text))[0][2], len(between))

    def test_each_rank_keeps_what_stands_on_it(self):
        source = random.Random(53)
        for text in made_texts(source, 60):
            rows = rows_of(text)
            made = made_orders(source, rows) + made_changes(source, rows, 20)
            wrong = [put(0, []), put(-1, [0]), put(0, [0] * 5), load("!"), sweep(2), best(-1), middle(0, FAR, 0)]
            behind = rows_of(text, *made, *wrong)
            self.assertEqual([sorted(row) for row in behind], [sorted(row) for row in rows])


class SecondPromise(unittest.TestCase):

    def test_counted_along_either_side(self):
        for text, made in orders(61, 100):
            model = Model(text)
            rows = rows_of(text, *made)
            found = run(load(text), *made, crossings())[-1]
            self.assertEqual(found[0], sum(found[1:]))
            for side in (0, 1):
                self.assertEqual(found[1:], [counted_along(model.pieces(k, rows), side) for k in range(len(rows) - 1)])

    def test_as_many_as_pairs(self):
        for text, made in orders(62, 60):
            rows = rows_of(text)
            found = run(load(text), *made, crossings(), *[pairs(k) for k in range(len(rows) - 1)])[1 + len(made):]
            self.assertEqual(found[0][1:], [answer[0] for answer in found[1:]])
            for answer in found[1:]:
                self.assertEqual(len(answer), 1 + 2 * answer[0])

    def test_a_mirrored_order_has_as_many(self):
        for text, made in orders(63, 100):
            rows = rows_of(text)
            mirrored = [put(k, list(reversed(range(len(row))))) for k, row in enumerate(rows)]
            asked = [crossings()] + [pairs(k) for k in range(len(rows) - 1)]
            found = run(load(text), *made, *asked, *mirrored, *asked)
            self.assertEqual(found[1 + len(made):][:len(asked)], found[-len(asked):])


class ThirdPromise(unittest.TestCase):

    def test_two_neighbours_swapped(self):
        for text, made in orders(71, 100):
            model = Model(text)
            rows = rows_of(text, *made)
            for k, row in enumerate(rows):
                for place in list(range(len(row) - 1))[:4]:
                    found = run(load(text), *made, crossings(), put(k, swapped_with_next(row, place)))[-2:]
                    change = found[1][0] - found[0][0]
                    self.assertEqual(change, self.change_between(model, rows, k, place))

    def change_between(self, model, rows, k, place):
        """The crossings between the pieces of the two, then less those now: each two change over."""
        change = 0
        for channel, here, there in ((k - 1, 1, 0), (k, 0, 1)):
            if 0 <= channel < len(rows) - 1:
                pieces = model.pieces(channel, rows)
                left = [piece[there] for piece in pieces if piece[here] == place]
                right = [piece[there] for piece in pieces if piece[here] == place + 1]
                change += sum(a < b for a in left for b in right) - sum(a > b for a in left for b in right)
        return change


class FourthPromise(unittest.TestCase):

    def test_in_the_order_of_their_middles(self):
        for text, made in orders(81, 80):
            before = rows_of(text, *made)
            for d in (0, 1):
                rows = rows_of(text, *made, sweep(d))
                for k in range(1 - d, len(rows) - d):
                    self.check_rank(text, [*made, sweep(d)], d, k, before[k], rows[k])
                fixed = (0, -1)[d]
                self.assertEqual(rows[fixed], before[fixed])

    def check_rank(self, text, made, d, k, before, row):
        asked = []
        for start in range(0, len(row), 60):
            places = range(start, min(start + 60, len(row)))
            asked += run(load(text), *made, *[middle(k, i, d) for i in places])[-len(places):]
        middles = [fractions.Fraction(total, count) for count, total in asked if count]
        self.assertEqual(middles, sorted(middles))
        # What has no neighbours stays, and of the same middle those are first that stood first.
        for place, (count, total) in enumerate(asked):
            if count == 0:
                self.assertEqual(row[place], before[place])
        stood = [(fractions.Fraction(total, count), before.index(row[place]))
                 for place, (count, total) in enumerate(asked) if count]
        self.assertEqual(stood, sorted(stood))


class FifthPromise(unittest.TestCase):

    def test_never_more_than_before_nor_than_after_one_or_two_sweeps(self):
        for text, made in orders(91, 150):
            found = run(load(text), *made, crossings(), settle())[-2:]
            self.assertEqual(found[1][1], found[0][0])
            self.assertLessEqual(found[1][0], found[0][0])
            swept = run(load(text), *made, sweep(0), sweep(1))[-2:]
            self.assertLessEqual(found[1][0], min(swept[0][0], swept[1][0]))

    def test_no_two_neighbours_swapped_make_it_fewer(self):
        for text, made in orders(92, 100):
            rows = rows_of(text, *made, settle())
            fewest = run(load(text), *made, settle())[-1][0]
            tried = [put(k, swapped_with_next(row, place)) for k, row in enumerate(rows)
                     for place in range(len(row) - 1)]
            for start in range(0, len(tried), 30):
                # Each is put twice, so that it stands as it was for the next one.
                some = [call for call in tried[start:start + 30] for turn in (0, 1)]
                found = run(load(text), *made, settle(), *some)[2 + len(made):]
                self.assertGreaterEqual(min(answer[0] for answer in found), fewest)
                self.assertEqual({answer[0] for answer in found[1::2]}, {fewest})

    def test_settled_is_what_sweeps_and_passes_make(self):
        source = random.Random(93)
        cases = list(orders(94, 60)) + [(made_zigzag(source, 20), []) for number in range(40)]
        for text, made in cases:
            steps = [sweep(d) for d in (0, 1) * 4]
            counts = [run(load(text), *made, crossings())[-1][0]]
            counts += [answer[0] for answer in run(load(text), *made, *steps)[1 + len(made):]]
            at = counts.index(min(counts))
            found = run(load(text), *made, *steps[:at], *[swaps()] * 40)[1 + len(made) + at:]
            passes = [answer[1] for answer in found].index(0)
            self.assertEqual(rows_of(text, *made, settle()), rows_of(text, *made, *steps[:at], *[swaps()] * passes))
            self.assertEqual(run(load(text), *made, settle())[-1], [found[passes][0], counts[0]])


class SixthPromise(unittest.TestCase):

    def test_no_order_of_a_rank_has_fewer(self):
        for text, made in orders(101, 60):
            rows = rows_of(text, *made)
            for k in [k for k, row in enumerate(rows) if len(row) <= 4]:
                found = run(load(text), *made, best(k))[-1]
                tried = [put(k, order) for order in itertools.permutations(range(len(rows[k])))]
                counts = [run(load(text), *made, call)[-1][0] for call in tried]
                self.assertEqual(found, [min(counts)])
                self.assertEqual(rows_of(text, *made, best(k)), rows_of(text, *made, tried[counts.index(min(counts))]))

    def test_longer_ranks(self):
        seen = 0
        for text, made in orders(102, 40):
            model = Model(text)
            rows = rows_of(text, *made)
            for k in [k for k, row in enumerate(rows) if len(row) in (5, 6)][:1]:
                wanted = model.with_best(k, rows)
                self.assertEqual(rows_of(text, *made, best(k)), wanted)
                self.assertEqual(run(load(text), *made, best(k))[-1], model.crossings(wanted)[:1])
                seen += 1
        self.assertGreater(seen, 10)

    def test_the_same_rank_twice(self):
        for text, made in orders(103, 60):
            rows = rows_of(text, *made)
            for k, row in enumerate(rows):
                found = run(load(text), *made, best(k), rank(k), best(k), rank(k), anew())[1 + len(made):]
                self.assertEqual(found[0], found[2])
                self.assertEqual(found[1], found[3])
                self.assertEqual(found[0] == [-6], len(row) > 6)


if __name__ == "__main__":
    unittest.main()
