"""load: texts, tokens, faults 1 to 9 with their places and their order."""

import random
import re
import unittest

from tests.helper import Model, crossings, form_of, load, made_text, model_load, rank, run, shown

NAME16 = "a234567890123456"
TWO = "box A ; box B ; "


def boxes(count):
    return "".join(f"box b{number};" for number in range(count))


class TextCase(unittest.TestCase):

    def assert_fault(self, text, code, place):
        self.assertEqual(run(load(text)), [[0, code, place]], text)
        self.assertEqual(model_load(text), [0, code, place], text)

    def assert_fault_at(self, marked, code):
        """The text has the sign ^ right before the place of its fault."""
        self.assert_fault(marked.replace("^", ""), code, marked.index("^"))

    def assert_diagram(self, text):
        answer = run(load(text))[0]
        self.assertEqual(answer[0], 1, text)
        self.assertEqual(answer, model_load(text), text)


class Length(TextCase):

    def test_empty(self):
        self.assertEqual(run(load("")), [[1, 0, 0, 0]])

    def test_blanks_and_remarks_alone(self):
        for text in (" ", "\n", "\t", " \t\n ", "#", "# box", "#\n", "\n# a\n\n#b"):
            self.assertEqual(run(load(text)), [[1, 0, 0, 0]], text)

    def test_4096_bytes(self):
        self.assertEqual(run(load(" " * 4096)), [[1, 0, 0, 0]])
        self.assertEqual(run(load("box A ;" + " " * 4089)), [[1, 1, 0, 0]])

    def test_4097_bytes(self):
        self.assert_fault(" " * 4097, 1, 4096)
        self.assert_fault("box A ;" + " " * 4090, 1, 4096)

    def test_8192_bytes(self):
        self.assert_fault("#" * 8192, 1, 4096)

    def test_fault_1_is_ahead_of_all_others(self):
        for start in ("!", "; ", "box A ; box A ;", "edge A -> A ;"):
            self.assert_fault(start + " " * 4097, 1, 4096)

    def test_a_wrong_byte_at_the_end_of_4096(self):
        self.assert_fault(" " * 4095 + "!", 2, 4095)


class Blanks(TextCase):

    def test_anywhere_between_tokens(self):
        gap = " \t\n# a remark ; box ! \x00\xff\n# another\n "
        plain = ["box", "A", ";", "box", "B", "5", "3", ";", "edge", "A", "->", "B", ":", "L", ";", "above", "A",
                 "B", ";"]
        text = gap + gap.join(plain) + gap
        self.assertEqual(form_of(text), "box A 5 3 ;\nbox B 5 3 ;\nedge A -> B : L ;\nabove A B ;\n")

    def test_none_where_tokens_part_by_themselves(self):
        self.assertEqual(form_of("box A;box B 5 3;edge A->B:L;above A B;"),
                         "box A 5 3 ;\nbox B 5 3 ;\nedge A -> B : L ;\nabove A B ;\n")

    def test_a_remark_parts_tokens(self):
        self.assertEqual(form_of("box#x\nA#y\n;"), "box A 5 3 ;\n")

    def test_a_remark_to_the_end(self):
        self.assert_diagram("box A ; # no line feed behind this")
        self.assert_diagram("# box B\nbox A ;#")

    def test_a_remark_ends_at_a_line_feed_alone(self):
        self.assertEqual(form_of("box A ; # x\t\rbox B ;"), "box A 5 3 ;\n")

    def test_other_bytes_are_no_blanks(self):
        for byte in (0, 8, 11, 12, 13, 31, 127, 128, 160, 255):
            self.assert_fault(list(b"box A ;") + [byte], 2, 7)


class Tokens(TextCase):

    def test_names_of_16_and_17_bytes(self):
        self.assertEqual(len(NAME16), 16)
        self.assert_diagram(f"box {NAME16} ;")
        self.assert_fault_at(f"box ^{NAME16}7 ;", 2)
        self.assert_diagram(TWO + f"edge A -> B : {NAME16} ;")
        self.assert_fault_at(TWO + f"edge A -> B : ^{NAME16}7 ;", 2)

    def test_a_name_is_too_long_though_it_begins_with_a_word(self):
        self.assert_fault_at("^boxboxboxboxboxbo ;", 2)

    def test_names_with_all_signs(self):
        for sign in "abcxyzABCXYZ":
            self.assert_diagram(f"box {sign} ; box {sign}{sign}09 ;")

    def test_neighbours_of_letters_and_digits_are_wrong(self):
        for sign in "@[`/~_.,()<>=*+\"'\\|&!?$":
            self.assert_fault_at(f"box A^{sign} ;", 2)

    def test_letters_of_both_cases_differ(self):
        self.assert_diagram("box a ; box A ; box Box ; box BOX ; edge a -> A ;")

    def test_words_are_no_names(self):
        for word in ("box", "edge", "above", "group"):
            self.assert_fault_at(f"box ^{word} ;", 3)
            self.assert_fault_at(f"box A ; edge A -> ^{word} ;", 3)
            self.assert_fault_at(TWO + f"edge A -> B : ^{word} ;", 3)
            self.assert_fault_at(f"above ^{word} A ;", 3)

    def test_words_within_names(self):
        self.assert_diagram("box boxes ; box box1 ; box group0 ; edge boxes -> box1 : edges ; above box1 group0 ;")

    def test_needless_zeros(self):
        self.assert_fault_at("box A ^05 3 ;", 2)
        self.assert_fault_at("box A 5 ^03 ;", 2)
        self.assert_fault_at("box A 5 3 ; ^00", 2)
        self.assert_fault_at("box A ^0000000000000000005 3 ;", 2)

    def test_zero_itself_is_a_number(self):
        self.assert_fault_at("box A ^0 3 ;", 7)
        self.assert_fault_at("^0", 3)

    def test_great_numbers(self):
        self.assert_fault_at("box A ^1000000000 3 ;", 7)
        self.assert_fault_at("box A ^1000000001 3 ;", 2)
        self.assert_fault_at("box A ^9999999999 3 ;", 2)
        self.assert_fault_at("box A 5 ^10000000000 ;", 2)
        self.assert_fault_at("box A 5 ^" + "9" * 4000 + " ;", 2)

    def test_a_number_ends_where_letters_begin(self):
        self.assert_fault_at("box A 5 3^x ;", 3)
        self.assert_diagram("box A 5 3; box B 5#\n3;")
        self.assert_fault_at("box ^5A ;", 3)

    def test_half_an_arrow(self):
        self.assert_fault_at(TWO + "edge A ^- > B ;", 2)
        self.assert_fault_at(TWO + "edge A ^> B ;", 2)
        self.assert_fault_at(TWO + "edge A ^--> B ;", 2)
        self.assert_fault_at(TWO + "edge A -> B ; ^-", 2)

    def test_signs_that_are_tokens_though_never_allowed(self):
        for sign in "{}":
            self.assert_fault_at(f"^{sign}", 3)
            self.assert_fault_at(f"box A ^{sign} ;", 3)
        self.assert_fault_at("^group A { }", 3)

    def test_fault_2_is_ahead_of_what_stands_before_it(self):
        self.assert_fault_at("; box A ^!", 2)
        self.assert_fault_at("box A 1 3 ; ^01", 2)
        self.assert_fault_at(boxes(25) + "^?", 2)
        self.assert_fault_at("box A ; box A ; ^" + NAME16 + "7", 2)

    def test_the_first_of_two(self):
        self.assert_fault_at("^! ?", 2)
        self.assert_fault_at("box ^" + NAME16 + "7 00 !", 2)


class Grammar(TextCase):

    def test_wrong_tokens(self):
        for marked in (
                "^;", "^A", "^5", "^->", "^:", "^group",
                "box ^;", "box ^5", "box ^->", "box A ^A", "box A ^:", "box A ^->", "box A ^box", "box A 5 ^;",
                "box A 5 ^A", "box A 5 3 ^3", "box A 5 3 ^A", "box A ; ^;",
                "edge ^;", "edge ^->", "edge A ^;", "edge A ^A", "edge A -> ^;", "edge A -> ^->", "edge A -> B ^B",
                "edge A -> B ^->", "edge A -> B : ^;", "edge A -> B : ^5", "edge A -> B : ^:", "edge A -> B : L ^L",
                "edge A -> B : L ^:", "edge A -> B ^5",
                "above ^;", "above A ^;", "above A ^->", "above A B ^A", "above A B ^:", "above A B ^5"):
            self.assert_fault_at(marked, 3)

    def test_the_end_is_not_allowed_within_a_statement(self):
        for text in ("box", "box A", "box A 5", "box A 5 3", "edge", "edge A", "edge A ->", "edge A -> B",
                     "edge A -> B :", "edge A -> B : L", "above", "above A", "above A B"):
            self.assert_fault(text, 3, len(text))
            longer = "box C ; " + text + " # x\n "
            self.assert_fault(longer, 3, len(longer))

    def test_the_first_of_two(self):
        self.assert_fault_at("box A ; ^; ; box", 3)

    def test_in_any_order(self):
        text = "above B A ; edge A -> B : A ; box A ; edge B -> C ; above A C ; box C 9 9 ; box B ;"
        self.assert_diagram(text)
        self.assertEqual(form_of(text), "box A 5 3 ;\nbox C 9 9 ;\nbox B 5 3 ;\nedge A -> B : A ;\nedge B -> C ;\n"
                                        "above B A ;\nabove A C ;\n")


class Counts(TextCase):

    def test_24_and_25_boxes(self):
        self.assert_diagram(boxes(24))
        self.assert_fault_at(boxes(24) + "^box c ;", 4)
        self.assert_fault_at(boxes(24) + "edge b0 -> b1 ; ^box", 4)

    def test_40_and_41_edges(self):
        self.assert_diagram(boxes(2) + "edge b0->b1;" * 40)
        self.assert_fault_at(boxes(2) + "edge b0->b1;" * 40 + "above b0 b1 ; ^edge b0 -> b1 ;", 4)

    def test_16_and_17_wishes(self):
        self.assert_diagram(boxes(2) + "above b0 b1;" * 16)
        self.assert_fault_at(boxes(2) + "above b0 b1;" * 16 + " ^above b0 b1 ;", 4)

    def test_all_at_once(self):
        text = boxes(24) + "edge b0->b1;" * 40 + "above b0 b1;" * 16
        self.assert_diagram(text)
        for word in ("box", "edge", "above"):
            self.assert_fault_at(text + "^" + word, 4)

    def test_left_to_right_with_3_and_7(self):
        self.assert_fault_at(boxes(24) + "^box box", 4)
        self.assert_fault_at(boxes(24) + "^; box c ;", 3)
        self.assert_fault_at(boxes(23) + "box c ^2 3 ; box d ;", 7)
        self.assert_fault_at(boxes(24) + "^box c 2 3 ;", 4)
        self.assert_fault_at("box A ^2 ;", 7)
        self.assert_fault_at("box A 3 ^; box B 2 3 ;", 3)
        self.assert_fault_at("box A ^31 10 ; ;", 7)

    def test_a_word_out_of_place_is_fault_3(self):
        self.assert_fault_at(boxes(24) + "edge b0 -> ^box c ;", 3)


class Bounds(TextCase):

    def test_width(self):
        for name in ("A", "ab", NAME16):
            least = len(name) + 2
            self.assert_diagram(f"box {name} {least} 3 ;")
            self.assert_diagram(f"box {name} 30 3 ;")
            self.assert_fault_at(f"box {name} ^{least - 1} 3 ;", 7)
            self.assert_fault_at(f"box {name} ^31 3 ;", 7)

    def test_height(self):
        self.assert_diagram("box A 5 3 ;")
        self.assert_diagram("box A 5 9 ;")
        self.assert_fault_at("box A 5 ^2 ;", 7)
        self.assert_fault_at("box A 5 ^10 ;", 7)
        self.assert_fault_at("box A 5 ^0 ;", 7)
        self.assert_fault_at("box A 5 ^1000000000 ;", 7)

    def test_width_is_looked_at_first(self):
        self.assert_fault_at("box A ^2 2 ;", 7)

    def test_the_first_box_decides(self):
        self.assert_fault_at("box A 5 ^2 ; box B 2 3 ;", 7)

    def test_fault_7_is_ahead_of_fault_5(self):
        self.assert_fault_at("box A ; box A ; edge X -> X ; box B 5 ^2 ;", 7)


class Names(TextCase):

    def test_a_name_twice(self):
        self.assert_fault_at("box A ; box B ; box ^A ;", 5)
        self.assert_fault_at("box A ; box ^A ; box A ;", 5)
        self.assert_fault_at("box A ; box B ; box ^B ; box A ;", 5)

    def test_fault_5_is_ahead_of_fault_6(self):
        self.assert_fault_at("edge X -> Y ; box A ; box ^A ;", 5)

    def test_names_that_no_box_has(self):
        self.assert_fault_at(TWO + "edge ^X -> B ;", 6)
        self.assert_fault_at(TWO + "edge A -> ^X ;", 6)
        self.assert_fault_at(TWO + "edge ^X -> X ;", 6)
        self.assert_fault_at(TWO + "above ^X B ;", 6)
        self.assert_fault_at(TWO + "above A ^X ;", 6)
        self.assert_fault_at(TWO + "edge A -> ^a ;", 6)

    def test_edges_are_looked_at_before_wishes(self):
        self.assert_fault_at(TWO + "above X Y ; edge A -> ^Z ;", 6)
        self.assert_fault_at(TWO + "above ^X Y ; edge A -> B ;", 6)

    def test_a_label_names_no_box(self):
        self.assert_diagram(TWO + "edge A -> B : X ;")
        self.assert_fault_at(TWO + "edge A -> B : X ; edge ^X -> B ;", 6)

    def test_named_in_front_of_their_place(self):
        self.assert_diagram("edge A -> B ; above B C ; box C ; box B ; box A ;")

    def test_without_boxes(self):
        self.assert_fault_at("edge ^A -> B ;", 6)
        self.assert_fault_at("above ^A B ;", 6)

    def test_fault_6_is_ahead_of_fault_8_and_9(self):
        self.assert_fault_at(TWO + "edge A -> A ; edge A -> ^X ;", 6)
        self.assert_fault_at(TWO + "edge A -> A ; above A ^X ;", 6)
        self.assert_fault_at(TWO + "above A B ; above B A ; above ^X B ;", 6)


class Loops(TextCase):

    def test_an_edge_to_itself(self):
        self.assert_fault_at(TWO + "edge A -> ^A ;", 8)
        self.assert_fault_at(TWO + "edge A -> B ; edge B -> ^B ; edge A -> A ;", 8)

    def test_a_wish_to_itself(self):
        self.assert_fault_at(TWO + "above A ^A ;", 8)

    def test_edges_are_looked_at_before_wishes(self):
        self.assert_fault_at(TWO + "above A A ; edge B -> ^B ;", 8)

    def test_fault_8_is_ahead_of_fault_9(self):
        self.assert_fault_at(TWO + "above A B ; above B A ; above A ^A ;", 8)
        self.assert_fault_at(TWO + "above A B ; above B A ; edge A -> ^A ;", 8)

    def test_wishes_in_a_circle(self):
        three = TWO + "box C ; "
        self.assert_fault_at(TWO + "above A B ; above ^B A ;", 9)
        self.assert_fault_at(three + "above A B ; above B C ; above ^C A ;", 9)
        self.assert_fault_at(three + "above C A ; above A B ; above ^B C ;", 9)
        self.assert_fault_at(three + "above A B ; above B C ; above ^B A ; above C A ;", 9)

    def test_no_circle_of_wishes(self):
        self.assert_diagram(TWO + "above A B ; above A B ;")
        self.assert_diagram(TWO + "box C ; above A B ; above B C ; above A C ;")
        self.assert_diagram(TWO + "above A B ; edge B -> A ;")


class Held(TextCase):

    def test_a_load_that_fails_changes_nothing(self):
        text = TWO + "box C ; edge A -> B ; edge C -> B ;"
        before = [shown(), rank(0), rank(1), crossings()]
        for wrong in (" " * 4097, "!", ";", boxes(25), "box A ; box A ;", "edge X -> Y ;", "box A 2 3 ;",
                      "box A ; edge A -> A ;", TWO + "above A B ; above B A ;"):
            found = run(load(text), [5, 0, 2, 1, 0], *before, load(wrong), *before)
            self.assertEqual(found[6], model_load(wrong))
            self.assertEqual(found[6][0], 0)
            self.assertEqual(found[2:6], found[7:])

    def test_a_load_that_fails_holds_nothing(self):
        self.assertEqual(run(load("!"), shown(), load("box"), crossings()), [[0, 2, 0], [-1], [0, 3, 3], [-1]])

    def test_a_load_takes_the_place_of_what_was_held(self):
        found = run(load(TWO + "edge A -> B ;"), load("box Z ;"), rank(0), rank(1), crossings(), load(""), rank(0),
                    crossings(), shown())
        self.assertEqual(found, [[1, 2, 0, 0], [1, 1, 0, 0], [1, 0, 0], [-2], [0], [1, 0, 0, 0], [-2], [0], [0]])


class ManyTexts(TextCase):

    def test_changed_texts(self):
        source = random.Random(11)
        pieces = ["box", "edge", "above", "group", "A", "B", "n1", "n2", "n3", ";", ":", "->", "-", "{", "5", "3", "03",
                  "1000000001", "!", "#", "\n", " ", "box n9 ;", "edge n0 -> n0 ;", "above n2 n1 ;"]
        codes = {}
        for number in range(1500):
            text = made_text(source, 4, 3, 3, True)
            for change in range(source.randrange(0, 3)):
                at = source.randrange(len(text) + 1)
                if source.randrange(2) == 0:
                    text = text[:at] + source.choice(pieces) + text[at + source.randrange(0, 6):]
                else:
                    # Names changed to other names leave the grammar whole, so that later faults are found.
                    text = text[:at] + re.sub("n[0-9]", source.choice(["n0", "n1", "n2", "n3"]), text[at:], count=1)
            answer = run(load(text))[0]
            self.assertEqual(answer, model_load(text), text)
            codes[answer[1] if answer[0] == 0 else 0] = True
        # The texts are of use only as long as they find all these.
        self.assertEqual(sorted(codes), [0, 2, 3, 5, 6, 7, 8, 9])

    def test_single_bytes(self):
        for byte in range(256):
            self.assertEqual(run(load([byte])), [model_load([byte])], byte)

    def test_the_model_agrees_on_the_form(self):
        source = random.Random(12)
        for number in range(60):
            text = made_text(source, 6, 8, 4, True)
            self.assertEqual(form_of(text), Model(text).form())


if __name__ == "__main__":
    unittest.main()
