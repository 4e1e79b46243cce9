import unittest

from tests.helper import anew, best, crossings, load, middle, pairs, put, rank, run, settle, swaps, sweep

TEXT = ("box A ; box B ; box C ; box D ; box E ; edge A -> E ; edge A -> D ; edge B -> D ; edge B -> C ; "
        "edge C -> E ;")


class Worked(unittest.TestCase):
    """The worked example of the document."""

    def test_first_order(self):
        self.assertEqual(
            run(load(TEXT), rank(1), crossings(), pairs(0)),
            [[1, 3, 1, 3], [3, 0, 2, 0, 3, 1, 0], [3, 3, 0], [3, 0, 2, 0, 3, 1, 3]])

    def test_middles(self):
        self.assertEqual(run(load(TEXT), middle(1, 0, 0), middle(1, 1, 0), middle(1, 2, 1))[1:], [[1, 1], [2, 1], [1, 0]])

    def test_sweep(self):
        self.assertEqual(run(load(TEXT), sweep(0), rank(1))[1:], [[0], [3, 1, 0, 0, 3, 0, 2]])

    def test_swaps(self):
        self.assertEqual(run(load(TEXT), sweep(0), anew(), swaps(), rank(0))[2:], [[3], [0, 1], [2, 0, 1, 0, 0]])

    def test_settle_and_best(self):
        self.assertEqual(run(load(TEXT), swaps(), anew(), settle(), best(1), put(1, [2, 1, 0]), rank(1))[2:],
                         [[3], [0, 3], [0], [3], [3, 0, 2, 0, 3, 1, 0]])

    def test_one_behind_another(self):
        self.assertEqual(
            run(load(TEXT), rank(1), crossings(), pairs(0), middle(1, 0, 0), middle(1, 1, 0), middle(1, 2, 1),
                sweep(0), rank(1), anew(), swaps(), rank(0), anew(), settle(), best(1), put(1, [2, 1, 0])),
            [[1, 3, 1, 3], [3, 0, 2, 0, 3, 1, 0], [3, 3, 0], [3, 0, 2, 0, 3, 1, 3], [1, 1], [2, 1], [1, 0],
             [0], [3, 1, 0, 0, 3, 0, 2], [3], [0, 1], [2, 0, 1, 0, 0], [3], [0, 3], [0], [3]])


if __name__ == "__main__":
    unittest.main()
