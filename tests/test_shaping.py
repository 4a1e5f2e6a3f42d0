"""firmvalues.shaping: points 6.1 to 6.8, by trying every input and every lot again."""

import itertools
import random
import time
import unittest

from firmvalues import shaping
from firmvalues.books import Book
from firmvalues.falls import Falls, falls_within
from firmvalues.outcomes import Clash, decide
from reckon import (MANNERS, NO_SEQUENCES, all_families, error_of, groups_by, inputs_of, let_by, rows, values_by,
                    worlds)


def clashes_by(let, n, m, manner, inputs):
    return any(not values_by(let, manner, m, group) for group in groups_by(let, n, manner, inputs))


def grown_by(let, book, manner, inputs):
    made = list(book.inputs)
    for entry in sorted(inputs):
        if entry not in made and not clashes_by(let, book.n, book.m, manner, made + [entry]):
            made.append(entry)
    return Book(book.n, book.m, made)


def lots_in_order(n):
    return [lot for size in range(1, n) for lot in itertools.combinations(range(n), size)]


def worlds_without_clash(most, many, seed):
    for book, falls in worlds(most, many, seed):
        for manner in MANNERS:
            if not isinstance(decide(book, falls, manner), Clash):
                yield book, falls, manner


class TestGreatestBooks(unittest.TestCase):
    def check_book(self, book, falls, manner, within):
        let = let_by(book.n, falls.lots)
        inputs = inputs_of(book.n, book.m) if within is None else within.inputs
        made = shaping.grown_book(book, falls, manner, within)
        self.assertEqual(made, grown_by(let, book, manner, inputs))
        self.assertFalse(isinstance(decide(made, falls, manner), Clash))
        self.assertIsNone(shaping.judge_greatest(made, falls, manner, within))
        more = [entry for entry in sorted(inputs) if entry not in book.inputs
                and not clashes_by(let, book.n, book.m, manner, [*book.inputs, entry])]
        self.assertEqual(shaping.judge_greatest(book, falls, manner, within), more[0] if more else None)

    def test_within_all_inputs(self):
        for book, falls, manner in worlds_without_clash(9, 2, 71):
            if book.m ** book.n <= 32:
                self.check_book(book, falls, manner, None)

    def test_within_a_book(self):
        drawn = random.Random(3)
        for book, falls, manner in worlds_without_clash(12, 3, 72):
            inputs = inputs_of(book.n, book.m)
            some = drawn.sample(inputs, drawn.randint(0, min(12, len(inputs))))
            self.check_book(book, falls, manner, Book(book.n, book.m, some + list(book.inputs[:3])))

    def test_the_example(self):
        falls = Falls.at_most(3, 1)
        made = shaping.grown_book(Book(3, 2, []), falls, "cells")
        self.assertEqual(made.inputs, ((0, 0, 0), (0, 0, 1), (0, 1, 0), (1, 0, 0), (1, 1, 1)))
        self.assertEqual(shaping.judge_greatest(Book(3, 2, []), falls, "cells"), (0, 0, 0))
        self.assertIsNone(shaping.judge_greatest(made, falls, "cells"))

    def test_every_greatest_book_is_made_of_itself(self):
        for lots in all_families(2):
            falls = Falls(2, lots)
            for manner in MANNERS:
                for some in itertools.product([0, 1], repeat=4):
                    book = Book(2, 2, [entry for entry, takes in zip(inputs_of(2, 2), some) if takes])
                    if not isinstance(decide(book, falls, manner), Clash):
                        self.check_book(book, falls, manner, None)

    def test_refusals_in_their_order(self):
        falls = Falls.at_most(5, 1)
        clashing = Book(5, 4, [entry for entry in inputs_of(5, 4) if max(entry) < 2])
        clash = decide(clashing, falls, "sure")
        for call in (shaping.grown_book, shaping.judge_greatest):
            self.assertEqual(error_of(call, clashing, Falls(4, []), "no"), ("UnlikeHouses",))
            for manner in NO_SEQUENCES:
                self.assertEqual(error_of(call, clashing, falls, manner), ("BadManner", manner))
            self.assertEqual(error_of(call, clashing, falls, "sure"), ("HasClash", clash))
            self.assertEqual(error_of(call, clashing, falls, "sure", Book(5, 4, [])), ("HasClash", clash))
            self.assertEqual(error_of(call, Book(5, 4, []), falls, "sure"), ("BadBook", "many", 0))
        self.assertEqual(shaping.grown_book(Book(5, 4, []), falls, "sure", Book(5, 4, [])), Book(5, 4, []))
        self.assertIsNone(shaping.judge_greatest(Book(5, 4, []), falls, "sure", Book(5, 4, [])))

    def test_a_book_that_would_be_too_great(self):
        falls, inputs = Falls(5, []), inputs_of(5, 4)
        book = Book(5, 4, inputs[:200])
        self.assertEqual(len(shaping.grown_book(book, falls, "sure", Book(5, 4, inputs[100:256]))), 256)
        beyond = Book(5, 4, inputs[100:257])
        self.assertEqual(error_of(shaping.grown_book, book, falls, "sure", beyond), ("BadBook", "many", 0))
        self.assertEqual(shaping.judge_greatest(book, falls, "sure", beyond), inputs[200])
        self.assertIsNone(shaping.judge_greatest(book, falls, "sure", Book(5, 4, inputs[:200])))


class TestWidestFamilies(unittest.TestCase):
    def widened_by(self, book, falls, manner):
        let = set(let_by(falls.n, falls.lots))
        for lot in map(frozenset, lots_in_order(falls.n)):
            if lot not in let and all(lot - {house} in let for house in lot):
                if not clashes_by(let | {lot}, book.n, book.m, manner, book.inputs):
                    let.add(lot)
        return let

    def test_widened_families(self):
        for book, falls, manner in worlds_without_clash(12, 6, 73):
            wide = shaping.widened_falls(book, falls, manner)
            let = {frozenset(lot) for lot in wide.each_lot()}
            self.assertEqual(let, self.widened_by(book, falls, manner))
            self.assertTrue(falls_within(falls, wide))
            self.assertFalse(isinstance(decide(book, wide, manner), Clash))
            self.assertIsNone(shaping.judge_widest(book, wide, manner))
            for lot in lots_in_order(book.n):
                if not wide.lets(lot):
                    self.assertIsInstance(decide(book, wide.with_lot(lot), manner), Clash)

    def test_judge_widest(self):
        told = set()
        for book, falls, manner in worlds_without_clash(10, 6, 74):
            let = let_by(falls.n, falls.lots)
            wanted = None
            for lot in lots_in_order(falls.n):
                wider = let | {frozenset(part) for size in range(len(lot) + 1)
                               for part in itertools.combinations(lot, size)}
                if frozenset(lot) not in let and not clashes_by(wider, book.n, book.m, manner, book.inputs):
                    wanted = lot
                    break
            self.assertEqual(shaping.judge_widest(book, falls, manner), wanted)
            told.add(wanted and len(wanted))
        self.assertLessEqual({None, 1, 2}, told)

    def test_greatest_count(self):
        for book, _ in worlds(20, 6, 75):
            for manner in MANNERS:
                fine = [count for count in range(book.n)
                        if not isinstance(decide(book, Falls.at_most(book.n, count), manner), Clash)]
                self.assertEqual(fine, list(range(len(fine))))
                self.assertEqual(shaping.greatest_count(book, manner), fine[-1])
        for n in range(2, 6):
            for manner in MANNERS:
                self.assertEqual(shaping.greatest_count(Book(n, 2, []), manner), n - 1)
                self.assertEqual(shaping.greatest_count(Book(n, 2, inputs_of(n, 2)), manner), 0)

    def test_refusals_in_their_order(self):
        book, falls = Book(2, 2, inputs_of(2, 2)), Falls.at_most(2, 1)
        for call in (shaping.widened_falls, shaping.judge_widest):
            self.assertEqual(error_of(call, book, Falls(3, []), "no"), ("UnlikeHouses",))
            for manner in NO_SEQUENCES:
                self.assertEqual(error_of(call, book, falls, manner), ("BadManner", manner))
            for manner in MANNERS:
                self.assertEqual(error_of(call, book, falls, manner), ("HasClash", decide(book, falls, manner)))
        for manner in NO_SEQUENCES:
            self.assertEqual(error_of(shaping.greatest_count, book, manner), ("BadManner", manner))


class TestBridges(unittest.TestCase):
    def test_bridges(self):
        found = 0
        for book, falls in worlds(18, 8, 76):
            let = let_by(book.n, falls.lots)
            for manner in MANNERS:
                groups = groups_by(let, book.n, manner, book.inputs)
                bridges = []
                for entry in book.inputs:
                    left = groups_by(let, book.n, manner, [other for other in book.inputs if other != entry])
                    kept = [tuple(other for other in group if other != entry) for group in groups]
                    if sorted(group for group in kept if group) != left:
                        bridges.append(entry)
                self.assertEqual(shaping.find_bridges(book, falls, manner), tuple(bridges))
                found += len(bridges)
                if manner == "letters" and falls.covering is not None:
                    self.assertEqual(bridges, [])
        self.assertGreater(found, 50)

    def test_refusals_in_their_order(self):
        book = Book(2, 2, inputs_of(2, 2))
        self.assertEqual(error_of(shaping.find_bridges, book, Falls(3, []), "no"), ("UnlikeHouses",))
        for manner in NO_SEQUENCES:
            self.assertEqual(error_of(shaping.find_bridges, book, Falls(2, []), manner), ("BadManner", manner))
        self.assertEqual(shaping.find_bridges(Book(2, 2, []), Falls(2, []), "sure"), ())
        self.assertEqual(shaping.find_bridges(Book(2, 2, [(0, 0), (0, 1)]), Falls(2, [(1,)]), "sure"), ())


class TestRestrictedBooks(unittest.TestCase):
    def test_inputs_that_go_on(self):
        drawn = random.Random(8)
        for book, falls in worlds(30, 5, 77):
            views = rows([None, *range(book.m)], book.n)
            for view in drawn.sample(views, min(20, len(views))):
                told = shaping.restricted_book(book, list(view))
                going = [entry for entry in book.inputs if all(v in (None, e) for v, e in zip(view, entry))]
                self.assertEqual(told, Book(book.n, book.m, going))
                unheard = [house for house in range(book.n) if view[house] is None]
                groups = groups_by(let_by(book.n, falls.lots), book.n, "sure", book.inputs)
                if falls.lets(unheard) and going:
                    self.assertEqual(len([group for group in groups if set(group) & set(going)]), 1)

    def test_refusals(self):
        book = Book(2, 2, inputs_of(2, 2))
        for view in (*NO_SEQUENCES, (0,), (0, 0, None)):
            self.assertEqual(error_of(shaping.restricted_book, book, view), ("BadView", "length", 0))
        self.assertEqual(error_of(shaping.restricted_book, book, (None, True)), ("BadView", "value", 1))
        self.assertEqual(shaping.restricted_book(book, (None, None)), book)


class TestTime(unittest.TestCase):
    def test_greatest_books(self):
        for n, m in ((4, 4), (5, 3)):
            book, empty = Book(n, m, inputs_of(n, m)), Book(n, m, [])
            begun = time.monotonic()
            for count in range(n):
                falls = Falls.at_most(n, count)
                for manner in MANNERS:
                    made = shaping.grown_book(empty, falls, manner, book)
                    self.assertIsNone(shaping.judge_greatest(made, falls, manner))
                    self.assertTrue(falls_within(falls, shaping.widened_falls(made, falls, manner)))
                    shaping.find_bridges(book, falls, manner)
                    shaping.judge_widest(made, falls, manner)
                    shaping.greatest_count(made, manner)
            self.assertLess(time.monotonic() - begun, 30)


if __name__ == "__main__":
    unittest.main()
