import unittest

from tests.helper import crossings, load, pairs, put, rank, run

TEXT = ("box A ; box B ; box C ; box D ; box E ; edge A -> E ; edge A -> D ; edge B -> D ; edge B -> C ; "
        "edge C -> E ;")


class Worked(unittest.TestCase):
    """The worked example of the document."""

    def test_first_order(self):
        self.assertEqual(
            run(load(TEXT), rank(1), crossings(), pairs(0)),
            [[1, 3, 1, 3], [3, 0, 2, 0, 3, 1, 0], [3, 3, 0], [3, 0, 2, 0, 3, 1, 3]])

    def test_put(self):
        # Behind the sweep of the example rank 1 is its mirror; put brings it there and back.
        self.assertEqual(
            run(load(TEXT), put(1, [2, 1, 0]), rank(1), crossings(), pairs(0), put(1, [2, 1, 0]), rank(1)),
            [[1, 3, 1, 3], [0], [3, 1, 0, 0, 3, 0, 2], [0, 0, 0], [0], [3], [3, 0, 2, 0, 3, 1, 0]])

    def test_swapped_boxes(self):
        # The example's pass swaps A and B, and no crossing is left.
        self.assertEqual(run(load(TEXT), put(0, [1, 0]), rank(0))[1:], [[0], [2, 0, 1, 0, 0]])


if __name__ == "__main__":
    unittest.main()
