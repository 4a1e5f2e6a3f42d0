"""firmvalues.judging: points 5.6 to 5.8, at right things and at right things with places spoilt."""

import itertools
import random
import time
import unittest

from firmvalues import judging
from firmvalues.books import Book
from firmvalues.falls import Falls
from firmvalues.outcomes import Clash, Outcomes, decide
from reckon import MANNERS, NO_SEQUENCES, error_of, fits_by, inputs_of, let_by, near_by, worlds
from test_linking import spoilt_tree, tree_fault_by

NO_VALUES = (True, False, None, -1, 4, 9, "0", 0.0, (0,), [0])


def outcomes_fault_by(let, book, manner, told):
    if not isinstance(told, (list, tuple)) or len(told) != len(book):
        return "length", None, None
    for entry, value in zip(book.inputs, told):
        if type(value) is not int or value not in range(book.m):
            return "value", entry, None
    for entry, value in zip(book.inputs, told):
        if not fits_by(let, manner, entry, value):
            return "lacking", entry, None
    for (one, first), (other, second) in itertools.combinations(zip(book.inputs, told), 2):
        if first != second and near_by(let, book.n, manner, one, other):
            return "unlike", one, other
    return None


def clash_fault_by(let, book, clash):
    fault = tree_fault_by(let, book.n, clash.manner, book, clash.tree)
    if fault is not None:
        return fault
    if not isinstance(clash.fails, (list, tuple)) or len(clash.fails) != book.m:
        return "fails", 0
    entries = [list(entry) for entry, parent in clash.tree]
    for value, entry in enumerate(clash.fails):
        whole = isinstance(entry, (list, tuple)) and all(type(part) is int for part in entry)
        if not whole or list(entry) not in entries:
            return "stranger", value
        if fits_by(let, clash.manner, tuple(entry), value):
            return "fits", value
    return None


class TestOutcomes(unittest.TestCase):
    def test_right_and_spoilt_rows(self):
        drawn = random.Random(1)
        told = set()
        for book, falls in worlds(24, 14, 61):
            let = let_by(book.n, falls.lots)
            for manner in MANNERS:
                decided = decide(book, falls, manner)
                right = decided.told if isinstance(decided, Outcomes) else [min(entry) for entry in book.inputs]
                for _ in range(6):
                    row = list(right)
                    for _ in range(drawn.randint(0, 2) if row else 0):
                        at = drawn.randrange(len(row))
                        row[at] = drawn.choice([*range(book.m)] * 4 + list(NO_VALUES))
                    row = drawn.choice([row, row, row, row[:-1], row + [0]])
                    kept = repr(row)
                    fault = judging.judge_outcomes(book, falls, manner, row)
                    self.assertEqual(fault, outcomes_fault_by(let, book, manner, row))
                    self.assertEqual(judging.judge_outcomes(book, falls, manner, tuple(row)), fault)
                    self.assertEqual(repr(row), kept)
                    self.assertEqual(judging.number_of_way(book, falls, manner, row) is None, fault is not None)
                    told.add(fault and fault[0])
        self.assertEqual(told, {None, "length", "value", "lacking", "unlike"})

    def test_no_rows(self):
        book, falls = Book(2, 2, [(0, 0), (1, 1)]), Falls(2, [(0,)])
        for told in (*NO_SEQUENCES, (), (0,), (0, 1, 1)):
            self.assertEqual(judging.judge_outcomes(book, falls, "sure", told), ("length", None, None))
            self.assertIsNone(judging.number_of_way(book, falls, "sure", told))
        self.assertIsNone(judging.judge_outcomes(Book(2, 2, []), falls, "sure", []))
        self.assertEqual(judging.number_of_way(Book(2, 2, []), falls, "sure", ()), 0)

    def test_a_wrong_value_is_told_ahead_of_one_that_does_not_fit(self):
        book, falls = Book(2, 2, [(0, 0), (0, 1), (1, 1)]), Falls(2, [(0,)])
        self.assertEqual(judging.judge_outcomes(book, falls, "sure", (1, 0, True)), ("value", (1, 1), None))
        self.assertEqual(judging.judge_outcomes(book, falls, "sure", (0, 0, 0)), ("lacking", (1, 1), None))
        self.assertEqual(judging.judge_outcomes(book, falls, "sure", (0, 0, 1)), ("unlike", (0, 1), (1, 1)))
        self.assertEqual(judging.judge_outcomes(book, falls, "letters", (0, 0, 1)), ("lacking", (0, 1), None))

    def test_refusals_in_their_order(self):
        book, falls = Book(2, 2, [(0, 0)]), Falls(2, [(0,)])
        for call in (judging.judge_outcomes, judging.number_of_way):
            self.assertEqual(error_of(call, book, Falls(3, []), "no", None), ("UnlikeHouses",))
            for manner in (*NO_SEQUENCES[:-1], "no"):
                self.assertEqual(error_of(call, book, falls, manner, None), ("BadManner", manner))


class TestClashes(unittest.TestCase):
    def spoilt_fails(self, drawn, book, entries, fails):
        fails = [list(entry) for entry in fails]
        for _ in range(drawn.randint(0, 2)):
            at = drawn.randrange(len(fails))
            fails[at] = drawn.choice([drawn.choice(entries), list(drawn.choice(inputs_of(book.n, book.m))), None, "00",
                                      (True,) * book.n, (False,) * book.n, (), (0,) * (book.n + 1), {0: 0}])
        return drawn.choice([fails] * 6 + [fails[:-1], fails + fails[:1], None, "01", {}, ()])

    def test_right_and_spoilt_clashes(self):
        drawn = random.Random(2)
        told = set()
        for book, falls in worlds(24, 24, 62):
            let = let_by(book.n, falls.lots)
            for manner in MANNERS:
                decided = decide(book, falls, manner)
                if isinstance(decided, Outcomes):
                    continue
                entries = [entry for entry, parent in decided.tree]
                self.assertIsNone(judging.judge_clash(book, falls, decided))
                for _ in range(8):
                    clash = Clash(manner, decided.tree, decided.fails)
                    clash.fails = self.spoilt_fails(drawn, book, entries, decided.fails)
                    clash.tree = [[list(entry), parent] for entry, parent in decided.tree]
                    if drawn.random() < 0.4:
                        clash.tree = spoilt_tree(drawn, book, clash.tree)
                    kept = repr(vars(clash))
                    fault = judging.judge_clash(book, falls, clash)
                    self.assertEqual(fault, clash_fault_by(let, book, clash))
                    self.assertEqual(repr(vars(clash)), kept)
                    told.add(fault and fault[0])
                    if fault is None:
                        self.assertIsInstance(decide(book, falls, manner), Clash)
        self.assertLessEqual({None, "fails", "stranger", "fits", "couple", "input", "twice", "parent", "apart"}, told)

    def test_no_clash_beside_outcomes(self):
        for book, falls in worlds(12, 10, 63):
            for manner in MANNERS:
                decided = decide(book, falls, manner)
                if isinstance(decided, Outcomes) and len(book):
                    for entry in book.inputs[:3]:
                        clash = Clash(manner, [(entry, None)], [entry] * book.m)
                        self.assertEqual(judging.judge_clash(book, falls, clash)[0], "fits")

    def test_refusals_in_their_order(self):
        book, falls = Book(2, 2, [(0, 0)]), Falls(2, [(0,)])
        for manner in ("no", None, True, ["sure"]):
            clash = Clash(manner, None, None)
            self.assertEqual(error_of(judging.judge_clash, book, Falls(3, []), clash), ("UnlikeHouses",))
            self.assertEqual(error_of(judging.judge_clash, book, falls, clash), ("BadManner", clash.manner))
        self.assertEqual(judging.judge_clash(book, falls, Clash("sure", None, None)), ("empty", 0))
        self.assertEqual(judging.judge_clash(book, falls, Clash("sure", [((0, 0), None)], None)), ("fails", 0))


class TestTime(unittest.TestCase):
    def test_greatest_books(self):
        begun = time.monotonic()
        for n, m in ((4, 4), (5, 3)):
            book = Book(n, m, inputs_of(n, m))
            for count in range(n):
                falls = Falls.at_most(n, count)
                for manner in MANNERS:
                    decided = decide(book, falls, manner)
                    if isinstance(decided, Outcomes):
                        self.assertIsNone(judging.judge_outcomes(book, falls, manner, decided.told))
                        self.assertEqual(judging.number_of_way(book, falls, manner, decided.told), 0)
                    else:
                        self.assertIsNone(judging.judge_clash(book, falls, decided))
        self.assertLess(time.monotonic() - begun, 20)


if __name__ == "__main__":
    unittest.main()
