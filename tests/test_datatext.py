"""firmvalues.datatext: points 2.1 to 2.5, against a second reading with regular expressions."""

import itertools
import random
import re
import unittest

from firmvalues import datatext
from firmvalues.datatext import data_text, read_data
from reckon import error_of

ATOM = re.compile(r"-|0|[1-9][0-9]{0,8}|[a-z]+(_[a-z]+)*")
TOKEN = re.compile(r"[()]|[^() \n]+")
LETTERS = "abcdefghijklmnopqrstuvwxyz"
RIGHT_ATOMS = [0, 1, 9, 10, 999999999, None, "a", "ab", "a b", "z" * 20, "ab cd ef gh ij kl mn"]
NO_DATA = [True, False, -1, 10 ** 9, 1.0, "", " ", " a", "a ", "a  b", "a_b", "A", "a1", "a" * 21, "a\nb", "-", "\u00e4",
           b"a", {}, {1}, {1: 2}, object, "a-b", "\uff41"]


def is_right(text):
    """True if a text tells one part: split into brackets and rows of other signs, each an atom."""
    depth = parts = 0
    for token in TOKEN.findall(text):
        if depth == 0 and parts == 1:
            return False
        if token == "(":
            depth += 1
            if depth > 12:
                return False
        elif token == ")":
            depth -= 1
            if depth < 0:
                return False
        elif not ATOM.fullmatch(token) or (token[0] in LETTERS and len(token) > 20):
            return False
        parts += depth == 0
    return depth == 0 and parts == 1


def can_go_on(text):
    """True if a right text begins with this one: closed brackets, and one letter, always are enough to end it."""
    ends = ")" * max(0, text.count("(") - text.count(")"))
    return is_right(text + ends) or is_right(text + "a" + ends)


def place_by(text):
    place = 0
    while place < len(text) and can_go_on(text[:place + 1]):
        place += 1
    return place


def nested(depth, inner=()):
    data = inner
    for _ in range(depth - 1):
        data = (data,)
    return data


def drawn_data(drawn, depth=3):
    if depth == 0 or drawn.random() < 0.4:
        words = [" ".join("".join(drawn.choices("abz", k=drawn.randint(1, 4))) for _ in range(drawn.randint(1, 3)))]
        return drawn.choice([None, 0, drawn.randint(1, 12), drawn.randint(0, 999999999), *words])
    return tuple(drawn_data(drawn, depth - 1) for _ in range(drawn.randint(0, 4)))


def as_lists(drawn, data):
    if not isinstance(data, tuple):
        return data
    return drawn.choice([list, tuple])(as_lists(drawn, part) for part in data)


def spread(drawn, data, gaps, path=(), begin=0, spans=None):
    """A text of the data with drawn gaps, and the span of each part by its path."""
    spans = {} if spans is None else spans
    if not isinstance(data, tuple):
        text = data_text(data)
    else:
        text = "("
        for at, part in enumerate(data):
            gap = drawn.choice(gaps)
            if at > 0 and gap == "" and not (isinstance(part, tuple) or isinstance(data[at - 1], tuple)):
                gap = drawn.choice([" ", "\n"])
            text += gap
            text += spread(drawn, part, gaps, path + (at,), begin + len(text), spans)[0]
        text += drawn.choice(gaps) + ")"
    spans[path] = (begin, begin + len(text))
    return text, spans


def spread_whole(drawn, data, gaps=("", "", " ", "\n", " \n ", "  ")):
    ahead = drawn.choice(gaps)
    text, spans = spread(drawn, data, gaps, begin=len(ahead))
    return ahead + text + drawn.choice(gaps), spans


def part_by(data, path):
    for step in path:
        data = data[step]
    return data


class TestData(unittest.TestCase):
    def test_words(self):
        for length in range(5):
            for signs in itertools.product("az A_1", repeat=length):
                thing = "".join(signs)
                self.assertIs(datatext.is_word(thing), bool(re.fullmatch("[a-z]+( [a-z]+)*", thing)), thing)
        for thing in ("a" * 20, "a" + " b" * 9, "abcdefghij klmnopqrs"):
            self.assertIs(datatext.is_word(thing), True)
        for thing in ("a" * 21, "a" + " b" * 10, None, 5, True, ["a"], ("a",), b"a", {"a"}, "a\n", "\u00e4", "\u0430"):
            self.assertIs(datatext.is_word(thing), False)

    def test_check_data_gives_tuples(self):
        drawn = random.Random(1)
        for _ in range(300):
            data = drawn_data(drawn)
            passed = as_lists(drawn, data)
            kept = repr(passed)
            self.assertEqual(datatext.check_data(passed), data)
            self.assertEqual(repr(datatext.check_data(passed)), repr(data))
            self.assertEqual(repr(passed), kept)
        passed = [[1], 2]
        told = datatext.check_data(passed)
        passed[0].append(3)
        self.assertEqual(told, ((1,), 2))

    def test_what_is_no_data(self):
        for thing in NO_DATA:
            for call in (datatext.check_data, data_text):
                self.assertEqual(error_of(call, thing), ("BadData", ()))
                self.assertEqual(error_of(call, [1, [thing, True], -1]), ("BadData", (1, 0)))
                self.assertEqual(error_of(call, ((), (1, (2, 3, thing)), True)), ("BadData", (1, 1, 2)))
        for atom in RIGHT_ATOMS:
            self.assertEqual(datatext.check_data([atom]), (atom,))

    def test_twelve_tuples_within_one_another(self):
        self.assertEqual(datatext.check_data(nested(12)), nested(12))
        self.assertEqual(datatext.check_data(nested(12, (1, None))), nested(12, (1, None)))
        for deep in (nested(13), nested(13, (True,)), nested(14), nested(13, [])):
            self.assertEqual(error_of(datatext.check_data, deep), ("BadData", (0,) * 12))
        self.assertEqual(error_of(datatext.check_data, (nested(11), True, nested(12))), ("BadData", (1,)))
        self.assertEqual(error_of(datatext.check_data, (nested(11), nested(12), True)), ("BadData", (1,) + (0,) * 11))
        endless = [1]
        endless.append(endless)
        self.assertEqual(error_of(datatext.check_data, endless), ("BadData", (1,) * 12))

    def test_depth(self):
        for depth in range(1, 14):
            self.assertEqual(datatext.depth_of(nested(depth)), depth)
            self.assertEqual(datatext.depth_of([1, nested(depth), ()]), depth + 1)
        for atom in RIGHT_ATOMS:
            self.assertEqual(datatext.depth_of(atom), 0)
        self.assertEqual([datatext.depth_of(data) for data in ([], (), [[]], [1, [2]])], [1, 1, 2, 2])

    def test_canonical_text(self):
        self.assertEqual(data_text((1, None, "a b", (), ((0,), []))), "(1 - a_b () ((0) ()))")
        self.assertEqual([data_text(atom) for atom in (0, 999999999, None, "ab c")], ["0", "999999999", "-", "ab_c"])
        drawn = random.Random(2)
        for _ in range(500):
            data = drawn_data(drawn)
            text = data_text(as_lists(drawn, data))
            self.assertEqual(read_data(text), data)
            self.assertEqual(repr(read_data(text)), repr(data))


class TestReading(unittest.TestCase):
    def check_text(self, text):
        if is_right(text):
            self.assertTrue(is_right(data_text(read_data(text))))
        else:
            self.assertEqual(error_of(read_data, text), ("BadText", place_by(text)), repr(text))

    def test_all_short_texts(self):
        for signs, most in (("()a_01- \n", 4), ("(a_)", 7), ("(0 )", 7), ("10a-", 6)):
            for length in range(most + 1):
                for text in itertools.product(signs, repeat=length):
                    self.check_text("".join(text))

    def test_the_named_places(self):
        self.assertEqual(error_of(read_data, "01"), ("BadText", 1))
        self.assertEqual(error_of(read_data, "(a) b"), ("BadText", 4))
        self.assertEqual(error_of(read_data, "a" * 19 + "_"), ("BadText", 19))
        self.assertEqual(error_of(read_data, "a" * 19 + "_b"), ("BadText", 19))
        self.assertEqual(error_of(read_data, "a" * 18 + "_"), ("BadText", 19))
        self.assertEqual(error_of(read_data, "(" + "a" * 21 + ")"), ("BadText", 21))
        self.assertEqual(error_of(read_data, "1234567890"), ("BadText", 9))
        self.assertEqual(error_of(read_data, "(" * 13), ("BadText", 12))
        self.assertEqual(error_of(read_data, "(" * 12), ("BadText", 12))
        for text in ("", " ", "\n", "(", "(a", "(a_", "a_", "((1) "):
            self.assertEqual(error_of(read_data, text), ("BadText", len(text)))
        self.assertEqual(read_data("a" * 18 + "_b"), "a" * 18 + " b")
        self.assertEqual(read_data("(" * 12 + ")" * 12), nested(12))

    def test_signs_that_stand_in_no_text(self):
        for sign in ("A", "\t", "\r", ".", "+", "\u00e4", "\uff11", "\u0661", "\x0b", "\u00a0", "[", "#", "\0"):
            for ahead in ("", " ", "(", "(a ", "(1(", "a", "12", "-", "(a)", "a_"):
                self.assertEqual(error_of(read_data, ahead + sign + ")"), ("BadText", len(ahead)))

    def test_drawn_texts_cut_and_changed_at_every_place(self):
        drawn = random.Random(3)
        signs = "()a_01- \nzA9"
        for _ in range(60):
            text, spans = spread_whole(drawn, drawn_data(drawn))
            self.check_text(text)
            for at in range(len(text) + 1):
                self.check_text(text[:at])
                self.check_text(text[:at] + text[at + 1:])
                sign = drawn.choice(signs)
                self.check_text(text[:at] + sign + text[at:])
                self.check_text(text[:at] + sign + text[at + 1:])

    def test_long_atoms_cut_and_changed(self):
        for text in ("(abcdefghijklmnopqrst)", "(ab_cd_ef_gh_ij_kl_mn 1)", "(123456789(0))", "(" * 12 + "1" + ")" * 12):
            for at in range(len(text) + 1):
                for sign in "()a_01- \nA":
                    self.check_text(text[:at] + sign + text[at:])
                    self.check_text(text[:at] + sign + text[at + 1:])
                self.check_text(text[:at])

    def test_gaps_of_every_kind(self):
        drawn = random.Random(4)
        for gaps in (("",), (" ",), ("\n",), ("", " ", "\n \n"), (" \n" * 3, "")):
            for _ in range(60):
                data = drawn_data(drawn, 4)
                self.assertEqual(read_data(spread_whole(drawn, data, gaps)[0]), data)

    def test_long_rows(self):
        data = tuple(range(3000))
        self.assertEqual(read_data(data_text(data)), data)


class TestParts(unittest.TestCase):
    WRONG_STEPS = (-1, True, False, None, "0", 9, 1.0, (0,), 10 ** 20)

    def test_parts_at_all_paths(self):
        drawn = random.Random(5)
        for _ in range(150):
            data = drawn_data(drawn, 4)
            text, spans = spread_whole(drawn, data)
            for path, span in spans.items():
                part = part_by(data, path)
                self.assertEqual(datatext.data_at(as_lists(drawn, data), path), part)
                self.assertEqual(datatext.data_at(data, list(path)), part)
                self.assertEqual(datatext.span_of(text, list(path)), span)
                self.assertEqual(datatext.span_of(text, path), span)
                self.assertEqual(read_data(text[span[0]:span[1]]), part)
                beyond = len(part) if isinstance(part, tuple) else 0
                for step in (beyond, *self.WRONG_STEPS):
                    longer = [*path, step, 0]
                    self.assertEqual(error_of(datatext.data_at, data, longer), ("NoPart", tuple(longer)))
                    self.assertEqual(error_of(datatext.span_of, text, longer), ("NoPart", tuple(longer)))
                    self.assertEqual(error_of(datatext.data_with, data, longer, 1)[0], "NoPart")
                    self.assertEqual(error_of(datatext.data_with, data, longer, 1), ("NoPart", (step, 0)))
                    self.assertEqual(error_of(datatext.text_with, text, longer, True), ("NoPart", tuple(longer)))

    def test_data_at_gives_tuples(self):
        self.assertEqual(datatext.data_at([1, [2, [3]]], [1]), (2, (3,)))
        self.assertEqual(datatext.data_at([1, [2]], ()), (1, (2,)))
        for data in (5, None, "ab"):
            self.assertEqual(error_of(datatext.data_at, data, (0,)), ("NoPart", (0,)))

    def test_path_at_every_place(self):
        drawn = random.Random(6)
        for _ in range(150):
            text, spans = spread_whole(drawn, drawn_data(drawn, 4))
            for at in range(-3, len(text) + 3):
                holding = [path for path, (begin, end) in spans.items() if begin <= at < end]
                wanted = max(holding, key=len) if holding else None
                self.assertEqual(datatext.path_at(text, at), wanted)

    def test_spans_of_wrong_texts(self):
        for text in ("", "(", "01", "(a) b", "a_", "(A)"):
            fault = ("BadText", place_by(text))
            self.assertEqual(error_of(datatext.span_of, text, (9,)), fault)
            self.assertEqual(error_of(datatext.path_at, text, -5), fault)
            self.assertEqual(error_of(datatext.text_with, text, (9,), True), fault)

    def test_data_with_exchanged_parts(self):
        drawn = random.Random(7)
        for _ in range(150):
            data, part = drawn_data(drawn, 3), drawn_data(drawn, 2)
            for path in spread_whole(drawn, data)[1]:
                passed, new = as_lists(drawn, data), as_lists(drawn, part)
                kept = repr(passed)
                made = datatext.data_with(passed, list(path), new)
                self.assertEqual(repr(passed), kept)
                self.assertEqual(repr(made), repr(datatext.check_data(made)))
                self.assertEqual(part_by(made, path), part)
                for other in spread_whole(drawn, data)[1]:
                    if other[:len(path)] != path and path[:len(other)] != other:
                        self.assertEqual(part_by(made, other), part_by(data, other))
                for at in range(len(path)):
                    self.assertEqual(len(part_by(made, path[:at])), len(part_by(data, path[:at])))

    def test_text_with_exchanged_parts(self):
        drawn = random.Random(8)
        for _ in range(150):
            data, part = drawn_data(drawn, 3), drawn_data(drawn, 1)
            text, spans = spread_whole(drawn, data)
            for path, (begin, end) in spans.items():
                made = datatext.text_with(text, list(path), as_lists(drawn, part))
                self.assertEqual(read_data(made), datatext.data_with(data, path, part))
                ahead, behind, new = text[:begin], text[end:], data_text(part)
                fore = " " if is_glued(ahead[-1:], new[:1]) else ""
                aft = " " if is_glued(new[-1:], behind[:1]) else ""
                self.assertEqual(made, ahead + fore + new + aft + behind)

    def test_blanks_are_put_where_atoms_would_meet(self):
        self.assertEqual(datatext.text_with("(a(b)c)", (1,), 5), "(a 5 c)")
        self.assertEqual(datatext.text_with("(a(b) c)", (1,), None), "(a - c)")
        self.assertEqual(datatext.text_with("(a(b)c)", (1,), (5,)), "(a(5)c)")
        self.assertEqual(datatext.text_with("((b))", (0,), 5), "(5)")
        self.assertEqual(datatext.text_with("(a\n(b)(c))", (1,), "x y"), "(a\nx_y(c))")
        self.assertEqual(datatext.text_with(" \n1 ", (), (2, [])), " \n(2 ()) ")

    def test_text_with_refuses(self):
        for thing in NO_DATA:
            self.assertEqual(error_of(datatext.text_with, "(1 2)", (1,), [0, thing]), ("BadData", (1,)))
            self.assertEqual(error_of(datatext.text_with, "(1 2)", (2,), thing), ("NoPart", (2,)))
        text = data_text(nested(11, (1, 2)))
        path = [0] * 10 + [1]
        self.assertEqual(datatext.text_with(text, path, [3]), data_text(nested(11, (1, (3,)))))
        self.assertEqual(error_of(datatext.text_with, text, path, [[3]]), ("BadData", tuple(path)))
        self.assertEqual(error_of(datatext.text_with, text, path, nested(13)), ("BadData", (0,) * 12))
        self.assertEqual(error_of(datatext.text_with, text, (), nested(13)), ("BadData", (0,) * 12))
        self.assertEqual(datatext.text_with(text, (), nested(12)), data_text(nested(12)))
        self.assertEqual(error_of(datatext.text_with, "(1)", (0,), nested(12)), ("BadData", (0,)))
        self.assertEqual(datatext.text_with("(1)", (0,), nested(11)), data_text(nested(12)))

    def test_a_path_is_a_sequence(self):
        for path in (None, "", "0", {}, {0: 0}, {0}, 0):
            self.assertEqual(error_of(datatext.data_at, (1, 2), path), ("NoPart", path))
            self.assertEqual(error_of(datatext.span_of, "(1 2)", path), ("NoPart", path))


def is_glued(one, other):
    return one != "" and other != "" and one not in " \n()" and other not in " \n()"


if __name__ == "__main__":
    unittest.main()
