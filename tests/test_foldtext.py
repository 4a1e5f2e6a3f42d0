"""firmvalues.foldtext: point 2.6, against a second folding that builds the text from its signs."""

import random
import unittest

from firmvalues.datatext import data_text, read_data
from firmvalues.foldtext import folded_text, greatest_width
from reckon import error_of
from test_datatext import NO_DATA, as_lists, drawn_data, nested


def is_atom(data):
    return not isinstance(data, tuple)


def fold_by(data, width, indent=0, after=""):
    """The folded text by the words of the point: row by row, from the outside to the inside."""
    one_row = " " * indent + data_text(data) + after
    if is_atom(data) or data == () or len(one_row) <= width or (len(data) == 1 and is_atom(data[0])):
        return one_row
    text = " " * indent + "("
    rest = list(data)
    if is_atom(data[0]):
        text += data_text(rest.pop(0))
    while rest:
        part = rest.pop(0)
        text += "\n" + fold_by(part, width, indent + 2, "" if rest else ")" + after)
    return text


class TestFolding(unittest.TestCase):
    def check_folding(self, data, width):
        text = folded_text(data, width)
        self.assertEqual(text, fold_by(data, width))
        self.assertEqual(repr(read_data(text)), repr(data))
        for row in text.split("\n"):
            if len(row) > width:
                self.assertLessEqual(len(row.replace("(", " ").replace(")", " ").split()), 1)
        self.assertEqual(greatest_width(text), max(len(row) for row in text.split("\n")))

    def test_drawn_data_at_many_widths(self):
        drawn = random.Random(1)
        for _ in range(400):
            data = drawn_data(drawn, drawn.randint(1, 6))
            for width in (20, 21, 27, 40, 80, 199, 200):
                self.check_folding(data, width)

    def test_every_width_about_the_length(self):
        drawn = random.Random(2)
        for _ in range(60):
            data = drawn_data(drawn, 4)
            length = len(data_text(data))
            for width in range(max(20, length - 3), min(200, length + 3) + 1):
                self.check_folding(data, width)
            if 20 <= length <= 200:
                self.assertEqual(folded_text(data, length), data_text(data))

    def test_deep_and_long_data(self):
        word = "abcdefghijklmnopqrst"
        for inner in ((), (word,), (1, word), (word, word), ((), ()), (999999999, ((), word, 5), ())):
            for depth in range(1, 10):
                for width in (20, 24, 45):
                    self.check_folding(nested(depth, inner), width)
        self.check_folding(tuple(range(400)), 20)
        self.check_folding(nested(12, tuple(range(100))), 20)
        self.check_folding(nested(12), 20)
        self.check_folding((nested(11), 1), 20)

    def test_rows_by_hand(self):
        word = "abcdefghijklmnopqrst"
        self.assertEqual(folded_text(word, 20), word)
        self.assertEqual(folded_text((word,), 20), f"({word})")
        self.assertEqual(folded_text(((word,),), 20), f"(\n  ({word}))")
        self.assertEqual(folded_text((1, word), 20), f"(1\n  {word})")
        self.assertEqual(folded_text(((1, 2), word), 20), f"(\n  (1 2)\n  {word})")
        self.assertEqual(folded_text((word, (), (1, 2)), 20), f"({word}\n  ()\n  (1 2))")
        self.assertEqual(folded_text((1, (2, (3, word))), 20), f"(1\n  (2\n    (3\n      {word})))")
        self.assertEqual(folded_text((1, (2, 345678), 901234), 20), "(1\n  (2 345678)\n  901234)")

    def test_what_must_follow_counts_to_the_width(self):
        self.assertEqual(folded_text((12345678, (123, 5678901, 345)), 20), "(12345678\n  (123 5678901 345))")
        self.assertEqual(folded_text((12345678, (123, 5678901, 3456)), 20), "(12345678\n  (123\n    5678901\n    3456))")

    def test_lists_are_taken_and_not_changed(self):
        drawn = random.Random(3)
        for _ in range(100):
            data = drawn_data(drawn, 4)
            passed = as_lists(drawn, data)
            kept = repr(passed)
            self.assertEqual(folded_text(passed, 30), folded_text(data, 30))
            self.assertEqual(repr(passed), kept)

    def test_greatest_width(self):
        for text, width in (("", 0), ("a", 1), ("a\nbcd\nef", 3), ("\n", 0), ("ab\n", 2), ("(a\n  b)", 4)):
            self.assertEqual(greatest_width(text), width)


class TestRefusals(unittest.TestCase):
    def test_data_ahead_of_width(self):
        for thing in NO_DATA:
            for width in (20, 19, None, True):
                self.assertEqual(error_of(folded_text, [0, [thing]], width), ("BadData", (1, 0)))
        self.assertEqual(error_of(folded_text, nested(13), 0), ("BadData", (0,) * 12))

    def test_width(self):
        for width in (19, 201, 0, -20, True, None, "20", 20.0, [20], (30,)):
            self.assertEqual(error_of(folded_text, (1, 2), width), ("BadWidth",))
        for width in (20, 200):
            self.assertEqual(folded_text((1, 2), width), "(1 2)")


if __name__ == "__main__":
    unittest.main()
