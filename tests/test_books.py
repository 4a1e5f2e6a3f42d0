"""firmvalues.books: points 3.6 to 3.9, books as sets of inputs."""

import itertools
import random
import unittest

from firmvalues import books
from firmvalues.books import Book
from firmvalues.falls import Falls
from firmvalues.rules import rule_holds
from reckon import NO_SEQUENCES, error_of, inputs_of, rows

NO_COUNTS = (True, False, None, "2", 2.0, [2], (), -1, 0)


def drawn_books(seed, many):
    drawn = random.Random(seed)
    for _ in range(many):
        n, m = drawn.choice([(2, 1), (2, 2), (2, 4), (3, 2), (3, 3), (4, 2), (5, 2), (5, 4), (4, 4)])
        inputs = inputs_of(n, m)
        some = drawn.sample(inputs, drawn.randint(0, min(len(inputs), 60)))
        yield n, m, some


class TestBooks(unittest.TestCase):
    def test_a_book_is_the_set_of_its_inputs(self):
        drawn = random.Random(1)
        for n, m, some in drawn_books(2, 300):
            passed = [drawn.choice([list, tuple])(entry) for entry in some + drawn.choices(some or [(0,) * n], k=3)]
            some = some or [(0,) * n]
            kept = repr(passed)
            book = Book(n, m, drawn.choice([list, tuple])(passed))
            self.assertEqual(repr(passed), kept)
            self.assertEqual((book.n, book.m, book.inputs), (n, m, tuple(sorted(some))))
            self.assertEqual(len(book), len(some))
            self.assertEqual(list(book), sorted(some))
            for entry in drawn.sample(inputs_of(n, m), min(40, m ** n)):
                self.assertIs(entry in book, entry in some)
                self.assertIs(list(entry) in book, entry in some)
            passed[0] = None
            self.assertEqual(book.inputs, tuple(sorted(some)))

    def test_lists_that_change_later(self):
        passed = [[0, 1], [1, 0]]
        book = Book(2, 2, passed)
        passed[0][0] = 1
        passed.append([0, 0])
        self.assertEqual(book.inputs, ((0, 1), (1, 0)))
        self.assertNotIn((1, 1), book)

    def test_things_that_are_in_no_book(self):
        book = Book(2, 2, inputs_of(2, 2))
        for thing in (None, 5, "00", "", (), (0,), (0, 0, 0), (0, True), [False, 1], (0, 2), (0, None), (0.0, 1), {0, 1},
                      {0: 0, 1: 1}, ((0, 0),), ([0], 1), b"\x00\x01", book):
            self.assertIs(thing in book, False)
        self.assertNotIn((1, 1), Book(2, 2, []))

    def test_equal_books(self):
        self.assertEqual(Book(2, 2, [(1, 0), (0, 1)]), Book(2, 2, [[0, 1], [1, 0], [0, 1]]))
        one = Book(2, 2, [(0, 1)])
        for other in (Book(2, 3, [(0, 1)]), Book(2, 2, [(0, 0)]), Book(2, 2, []), Book(2, 2, [(0, 0), (0, 1)]), None,
                      ((0, 1),), [(0, 1)], Falls(2, [])):
            self.assertFalse(one == other)
            self.assertTrue(one != other)
        self.assertNotEqual(Book(2, 2, []), Book(3, 2, []))

    def test_refusals_in_their_order(self):
        for houses in (*NO_COUNTS, 1, 6):
            for values in (2, 0, None):
                self.assertEqual(error_of(Book, houses, values, None), ("BadBook", "houses", 0))
        for values in (*NO_COUNTS, 5):
            for inputs in ([], None, [None]):
                self.assertEqual(error_of(Book, 2, values, inputs), ("BadBook", "values", 0))
        for inputs in (*NO_SEQUENCES, [(0, 0)] * 257, [None] * 257, iter([(0, 0)]), Book(2, 2, [])):
            self.assertEqual(error_of(Book, 2, 2, inputs), ("BadBook", "many", 0))
        self.assertEqual(len(Book(2, 2, [(0, 0)] * 256)), 1)
        self.assertEqual(len(Book(4, 4, inputs_of(4, 4))), 256)
        for index in range(3):
            for wrong in (*NO_SEQUENCES, (0,), (0, 0, 0), (0, 2), (0, -1), (0, True), (None, 0), ["0", "0"]):
                for later in ((0, 0), None):
                    inputs = [(0, 1)] * index + [wrong, later]
                    self.assertEqual(error_of(Book, 2, 2, inputs), ("BadBook", "input", index))

    def test_going_on(self):
        for n, m, some in drawn_books(3, 60):
            book = Book(n, m, some)
            views = rows([None, *range(m)], n)
            for view in random.Random(n).sample(views, min(60, len(views))):
                going = [entry for entry in sorted(some) if all(v in (None, e) for v, e in zip(view, entry))]
                self.assertEqual(book.going_on(list(view)), tuple(going))
                self.assertEqual(book.first_going_on(view), going[0] if going else None)

    def test_going_on_refuses(self):
        book = Book(3, 2, [(0, 0, 0)])
        for call in (book.going_on, book.first_going_on):
            for view in (*NO_SEQUENCES, (), (0, 0), (None,) * 4):
                self.assertEqual(error_of(call, view), ("BadView", "length", 0))
            for house in range(3):
                for wrong in (2, -1, True, "0", (0,)):
                    view = [None] * house + [wrong] + [9] * (2 - house)
                    self.assertEqual(error_of(call, view), ("BadView", "value", house))
            call([None, 0, None])

    def test_one_input_more_or_less(self):
        for n, m, some in drawn_books(4, 80):
            book = Book(n, m, some)
            for entry in random.Random(m).sample(inputs_of(n, m), min(10, m ** n)):
                more = book.with_entry(list(entry))
                self.assertEqual(more, Book(n, m, some + [entry]))
                if entry in some:
                    self.assertEqual(more, book)
                    less = book.without_entry(list(entry))
                    self.assertEqual(less, Book(n, m, [other for other in some if other != entry]))
                else:
                    self.assertEqual(error_of(book.without_entry, entry), ("NotInBook", entry))
                self.assertEqual(book, Book(n, m, some))

    def test_one_input_more_or_less_refuses(self):
        full = Book(5, 4, inputs_of(5, 4)[:256])
        self.assertEqual(error_of(full.with_entry, (3, 3, 3, 3, 3)), ("BadBook", "many", 0))
        self.assertEqual(full.with_entry([0] * 5), full)
        for wrong in (*NO_SEQUENCES, (0,) * 4):
            self.assertEqual(error_of(full.with_entry, wrong), ("BadInput", "length", 0))
            self.assertEqual(error_of(full.without_entry, wrong), ("NotInBook", wrong))
        self.assertEqual(error_of(full.with_entry, (0, 0, 4, True, 0)), ("BadInput", "value", 2))
        self.assertEqual(error_of(full.without_entry, (0, 0, 0, 0, False)), ("NotInBook", (0, 0, 0, 0, False)))


class TestBooksOfRules(unittest.TestCase):
    def test_the_inputs_for_which_a_rule_holds(self):
        rules = [("all",), ("not", ("all",)), ("firm greatest",), ["firm first", [0]], ["alike but", 1], ["spread", 1],
                 ["sum", 1, 3], ["or", ["firm", 0], ["at", 1, [0, 0]]], ["and", ["at least", 0, 1], ["is", [0, 0]]]]
        for n, m in [(2, 1), (2, 2), (2, 4), (3, 2), (3, 3), (4, 2), (5, 2)]:
            for rule in rules[:-1] if n > 2 else rules:
                for falls in (Falls.at_most(n, 1), Falls(n, [])):
                    wanted = [entry for entry in inputs_of(n, m) if rule_holds(falls, m, rule, entry)]
                    self.assertEqual(books.book_of(falls, m, rule), Book(n, m, wanted))

    def test_greatest_books(self):
        self.assertEqual(len(books.book_of(Falls(4, []), 4, ("all",))), 256)
        self.assertEqual(error_of(books.book_of, Falls(5, []), 4, ("all",)), ("BadBook", "many", 0))
        self.assertEqual(len(books.book_of(Falls(5, []), 4, ("at", 0, (2,)))), 256)
        self.assertEqual(error_of(books.book_of, Falls(5, []), 4, ("not", ("is", (0,) * 5))), ("BadBook", "many", 0))

    def test_refusals_in_their_order(self):
        falls = Falls(5, [])
        for values in (*NO_COUNTS, 5):
            for rule in (("all",), None, ("firm", 9)):
                self.assertEqual(error_of(books.book_of, falls, values, rule), ("BadBook", "values", 0))
        for rule in NO_SEQUENCES:
            self.assertEqual(error_of(books.book_of, falls, 4, rule), ("BadRule", (), "kind"))
        rule = ("or", ("all",), ("not", ("firm", 4)))
        self.assertEqual(error_of(books.book_of, falls, 4, rule), ("BadRule", (1, 0), "value"))


class TestCouplesOfBooks(unittest.TestCase):
    def test_as_sets(self):
        drawn = random.Random(6)
        for n, m, some in drawn_books(7, 200):
            more = drawn.sample(inputs_of(n, m), drawn.randint(0, min(60, m ** n)))
            more = drawn.choice([more, some, some[:3], some + more])
            one, other = Book(n, m, some), Book(n, m, more)
            self.assertIs(books.book_within(one, other), set(some) <= set(more))
            self.assertEqual(books.joined_books(one, other), Book(n, m, sorted(set(some) | set(more))))
            self.assertEqual(books.shared_book(one, other), Book(n, m, sorted(set(some) & set(more))))
            self.assertEqual(books.book_less(one, other), Book(n, m, sorted(set(some) - set(more))))
            self.assertEqual((one, other), (Book(n, m, some), Book(n, m, more)))
            if m ** n <= 256:
                self.assertEqual(books.opposite_book(one), Book(n, m, sorted(set(inputs_of(n, m)) - set(some))))

    def test_unlike_books(self):
        for one, other in itertools.permutations([Book(2, 2, []), Book(3, 2, []), Book(2, 3, []), Book(3, 3, [])], 2):
            for call in (books.book_within, books.joined_books, books.shared_book, books.book_less):
                self.assertEqual(error_of(call, one, other), ("UnlikeBooks",))

    def test_too_many_inputs(self):
        inputs = inputs_of(5, 4)
        one, other = Book(5, 4, inputs[:200]), Book(5, 4, inputs[150:257])
        self.assertEqual(error_of(books.joined_books, one, other), ("BadBook", "many", 0))
        self.assertEqual(len(books.joined_books(one, Book(5, 4, inputs[150:256]))), 256)
        self.assertEqual(error_of(books.opposite_book, one), ("BadBook", "many", 0))
        self.assertEqual(error_of(books.joined_books, one, Book(4, 4, inputs_of(4, 4))), ("UnlikeBooks",))
        self.assertEqual(len(books.opposite_book(Book(4, 4, []))), 256)


if __name__ == "__main__":
    unittest.main()
