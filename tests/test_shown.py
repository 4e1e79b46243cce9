import random
import unittest

from tests.helper import Model, form_of, load, made_texts, run, shown


class Shown(unittest.TestCase):

    def test_empty(self):
        self.assertEqual(run(load(""), shown()), [[1, 0, 0, 0], [0]])

    def test_without_sizes(self):
        self.assertEqual(form_of("box A; box abcdefghijklmnop;"), "box A 5 3 ;\nbox abcdefghijklmnop 20 3 ;\n")

    def test_with_sizes(self):
        self.assertEqual(form_of("box A 3 3; box B 30 9; box cd 10 4;"), "box A 3 3 ;\nbox B 30 9 ;\nbox cd 10 4 ;\n")

    def test_labels_and_wishes(self):
        self.assertEqual(
            form_of("edge A->B:A; above B C; box A; box B; edge A->B; above A B; box C; edge C -> A : x1;"),
            "box A 5 3 ;\nbox B 5 3 ;\nbox C 5 3 ;\n"
            "edge A -> B : A ;\nedge A -> B ;\nedge C -> A : x1 ;\n"
            "above B C ;\nabove A B ;\n")

    def test_turned_edges_are_shown_as_told(self):
        self.assertEqual(form_of("box A; box B; edge A->B; edge B->A;"),
                         "box A 5 3 ;\nbox B 5 3 ;\nedge A -> B ;\nedge B -> A ;\n")

    def test_the_answer_as_it_stands(self):
        self.assertEqual(run(load("box A;"), shown())[1], [12] + list(b"box A 5 3 ;\n"))

    def test_an_order_does_not_matter(self):
        found = run(load("box A; box B;"), shown(), [5, 0, 2, 1, 0], shown())
        self.assertEqual(found[1], found[3])

    def test_loaded_again(self):
        for text in made_texts(random.Random(21), 60):
            form = form_of(text)
            self.assertEqual(form, Model(text).form())
            self.assertEqual(form_of(form), form)
            self.assertEqual(run(load(form)), run(load(text)))

    def test_the_longest_form(self):
        names = [f"a23456789012345{sign}" for sign in "abcdefghijklmnopqrstuvwx"]
        text = "".join(f"box {name} 30 9;" for name in names)
        text += f"edge {names[0]}->{names[1]}:{names[2]};" * 40 + f"above {names[0]} {names[1]};" * 16
        form = form_of(text)
        self.assertLessEqual(len(form), 4096)
        self.assertEqual(form_of(form), form)


if __name__ == "__main__":
    unittest.main()
