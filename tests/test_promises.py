"""The promises 1 to 3, for the first order and for orders that put makes."""

import random
import unittest

from tests.helper import Model, crossings, load, made_texts, pairs, put, rank, rows_of, run


def made_orders(source, rows):
    """A put for each rank."""
    return [put(k, source.sample(range(len(row)), len(row))) for k, row in enumerate(rows)]


def orders(seed, count):
    """Texts with puts: none, so that the first order is there, or some for all ranks."""
    source = random.Random(seed)
    for number, text in enumerate(made_texts(source, count)):
        yield text, [] if number % 4 == 0 else made_orders(source, rows_of(text))


def counted_along(pieces, side):
    """Each piece crosses those before it, on this side, that end behind it."""
    other = 1 - side
    count = 0
    for piece in pieces:
        count += sum(one[side] < piece[side] and one[other] > piece[other] for one in pieces)
    return count


class FirstPromise(unittest.TestCase):

    def test_each_box_once_on_its_rank(self):
        for text, puts in orders(51, 100):
            model = Model(text)
            rows = rows_of(text, *puts)
            standing = sorted((number, k) for k, row in enumerate(rows) for sort, number in row if sort == 0)
            self.assertEqual(standing, list(enumerate(model.ranks)))

    def test_a_passing_place_on_each_rank_between(self):
        for text, puts in orders(52, 100):
            model = Model(text)
            rows = rows_of(text, *puts)
            passing = sorted((number, k) for k, row in enumerate(rows) for sort, number in row if sort == 1)
            between = [(e, k) for e, (a, b) in enumerate(model.down)
                       for k in range(model.ranks[a] + 1, model.ranks[b])]
            self.assertEqual(passing, between)
            self.assertEqual(run(load(text))[0][2], len(between))

    def test_each_rank_keeps_what_stands_on_it(self):
        source = random.Random(53)
        for text in made_texts(source, 60):
            before = [sorted(row) for row in rows_of(text)]
            puts = made_orders(source, rows_of(text))
            wrong = [put(0, []), put(-1, [0]), put(0, [0] * 5), load("!")]
            self.assertEqual([sorted(row) for row in rows_of(text, *puts, *wrong)], before)


class SecondPromise(unittest.TestCase):

    def test_counted_along_either_side(self):
        for text, puts in orders(61, 100):
            model = Model(text)
            rows = rows_of(text, *puts)
            found = run(load(text), *puts, crossings())[-1]
            self.assertEqual(found[0], sum(found[1:]))
            for side in (0, 1):
                self.assertEqual(found[1:], [counted_along(model.pieces(k, rows), side) for k in range(len(rows) - 1)])

    def test_as_many_as_pairs(self):
        for text, puts in orders(62, 60):
            rows = rows_of(text)
            found = run(load(text), *puts, crossings(), *[pairs(k) for k in range(len(rows) - 1)])[1 + len(puts):]
            self.assertEqual(found[0][1:], [answer[0] for answer in found[1:]])
            for answer in found[1:]:
                self.assertEqual(len(answer), 1 + 2 * answer[0])

    def test_a_mirrored_order_has_as_many(self):
        for text, puts in orders(63, 100):
            rows = rows_of(text)
            mirrored = [put(k, list(reversed(range(len(row))))) for k, row in enumerate(rows)]
            asked = [crossings()] + [pairs(k) for k in range(len(rows) - 1)]
            found = run(load(text), *puts, *asked, *mirrored, *asked)
            self.assertEqual(found[1 + len(puts):][:len(asked)], found[-len(asked):])


class ThirdPromise(unittest.TestCase):

    def test_two_neighbours_swapped(self):
        for text, puts in orders(71, 100):
            model = Model(text)
            rows = rows_of(text, *puts)
            for k, row in enumerate(rows):
                for place in list(range(len(row) - 1))[:4]:
                    order = list(range(len(row)))
                    order[place], order[place + 1] = place + 1, place
                    found = run(load(text), *puts, crossings(), put(k, order), rank(k))[1 + len(puts):]
                    change = found[1][0] - found[0][0]
                    self.assertEqual(change, self.change_between(model, rows, k, place))

    def change_between(self, model, rows, k, place):
        """The crossings between the pieces of the two, then less those now: each two change over."""
        change = 0
        for channel, here, there in ((k - 1, 1, 0), (k, 0, 1)):
            if 0 <= channel < len(rows) - 1:
                pieces = model.pieces(channel, rows)
                left = [piece[there] for piece in pieces if piece[here] == place]
                right = [piece[there] for piece in pieces if piece[here] == place + 1]
                change += sum(a < b for a in left for b in right) - sum(a > b for a in left for b in right)
        return change


if __name__ == "__main__":
    unittest.main()
