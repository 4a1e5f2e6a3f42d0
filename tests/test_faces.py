"""firmvalues.faces: points 4.7 and 4.8."""

import itertools
import random
import unittest

from firmvalues import faces
from firmvalues.books import Book
from firmvalues.falls import Falls
from firmvalues.firmness import fits
from firmvalues.linking import are_neighbours, linked_groups
from reckon import MANNERS, all_families, error_of, groups_by, inputs_of, let_by, rows, values_by, worlds


class TestFaces(unittest.TestCase):
    def faces_by(self, book, falls):
        wanted = []
        for lot in falls.lots:
            views = [view for view in rows([None, *range(book.m)], book.n)
                     if tuple(house for house in range(book.n) if view[house] is None) == lot]
            of_lot = []
            for view in views:
                going = tuple(entry for entry in book.inputs if all(v in (None, e) for v, e in zip(view, entry)))
                if going:
                    of_lot.append((going[0], (lot, view, going)))
            wanted += [face for least, face in sorted(of_lot)]
        return wanted

    def test_all_faces_in_order(self):
        for book, falls in worlds(40, 5, 41):
            told = faces.each_face(book, falls)
            self.assertIs(iter(told), told)
            told = list(told)
            self.assertEqual(repr(told), repr(self.faces_by(book, falls)))
            together = {(one, other) for lot, view, inputs in told for one in inputs for other in inputs if one != other}
            for one, other in itertools.permutations(book.inputs, 2):
                self.assertIs((one, other) in together, are_neighbours(falls, one, other))

    def test_nothing_let_but_the_empty_lot(self):
        book = Book(2, 2, [(1, 0), (0, 1)])
        wanted = [((), (0, 1), ((0, 1),)), ((), (1, 0), ((1, 0),))]
        self.assertEqual(list(faces.each_face(book, Falls(2, []))), wanted)
        self.assertEqual(list(faces.each_face(Book(2, 2, []), Falls(2, [(0,)]))), [])

    def test_unlike_houses(self):
        self.assertEqual(error_of(lambda: next(faces.each_face(Book(2, 2, []), Falls(3, [])))), ("UnlikeHouses",))


class TestSideBySide(unittest.TestCase):
    def test_families(self):
        every = [(n, lots) for n in (2, 3) for lots in all_families(n)]
        for (n, one), (k, other) in itertools.product(every, every):
            first, second = Falls(n, one), Falls(k, other)
            if n + k > 5:
                self.assertEqual(error_of(faces.beside_falls, first, second), ("BadFalls", "houses", 0))
                continue
            beside = faces.beside_falls(first, second)
            let = {a | {house + n for house in b} for a in let_by(n, one) for b in let_by(k, other)}
            self.assertEqual((beside.n, {frozenset(lot) for lot in beside.each_lot()}), (n + k, let))
            both = first.covering is not None and second.covering is not None
            self.assertIs(beside.covering is not None, both)

    def test_books(self):
        drawn = random.Random(9)
        for _ in range(150):
            n, k, m = drawn.choice([(2, 2), (2, 3), (3, 2)]) + (drawn.randint(1, 3),)
            one = Book(n, m, drawn.sample(inputs_of(n, m), drawn.randint(0, min(7, m ** n))))
            other = Book(k, m, drawn.sample(inputs_of(k, m), drawn.randint(0, min(7, m ** k))))
            beside = faces.beside_books(one, other)
            wanted = tuple(sorted(a + b for a in one.inputs for b in other.inputs))
            self.assertEqual((beside.n, beside.m, beside.inputs), (n + k, m, wanted))
            lots, more = drawn.choice(all_families(n)), drawn.choice(all_families(k))
            family = faces.beside_falls(Falls(n, lots), Falls(k, more))
            for manner in ("sure", "cells"):
                groups = [sorted(entry for entry, parent in tree) for tree in linked_groups(beside, family, manner)]
                ones = groups_by(let_by(n, lots), n, manner, one.inputs)
                others = groups_by(let_by(k, more), k, manner, other.inputs)
                product = [sorted(a + b for a in group for b in beyond) for group in ones for beyond in others]
                self.assertEqual(groups, sorted(product))
                for group, beyond in itertools.product(ones, others):
                    of_both = [a + b for a in group for b in beyond]
                    none_fits = not values_by(let_by(n, lots), manner, m, group)
                    none_fits = none_fits and not values_by(let_by(k, more), manner, m, beyond)
                    let = {frozenset(lot) for lot in family.each_lot()}
                    self.assertIs(not values_by(let, manner, m, of_both), none_fits)
            for manner, a, b, value in itertools.product(MANNERS, one.inputs, other.inputs, range(m)):
                either = fits(Falls(n, lots), manner, a, value) or fits(Falls(k, more), manner, b, value)
                self.assertIs(fits(family, manner, a + b, value), either)

    def test_refusals_in_their_order(self):
        full = Book(4, 4, inputs_of(4, 4))
        for other in (Book(2, 3, []), Book(5, 1, [])):
            self.assertEqual(error_of(faces.beside_books, full, other), ("UnlikeBooks",))
        for one, other in ((full, Book(2, 4, [])), (Book(3, 2, []), Book(3, 2, []))):
            self.assertEqual(error_of(faces.beside_books, one, other), ("BadBook", "houses", 0))
        one = Book(2, 4, inputs_of(2, 4))
        self.assertEqual(len(faces.beside_books(one, one)), 256)
        more = Book(3, 4, inputs_of(3, 4)[:17])
        self.assertEqual(error_of(faces.beside_books, one, more), ("BadBook", "many", 0))
        self.assertEqual(error_of(faces.beside_falls, Falls(5, []), Falls(2, [])), ("BadFalls", "houses", 0))


if __name__ == "__main__":
    unittest.main()
