"""Books: the sets of inputs that can come."""

from firmvalues.errors import BadBook, BadInput, NotInBook, UnlikeBooks
from firmvalues.inputs import all_inputs, check_entry, check_view, goes_on, is_sequence, is_whole, is_whole_row
from firmvalues.rules import check_rule, holds_for

MOST_INPUTS = 256


class Book:
    def __init__(self, houses, values, inputs):
        if not is_whole(houses, 2, 5):
            raise BadBook("houses", 0)
        if not is_whole(values, 1, 4):
            raise BadBook("values", 0)
        if not is_sequence(inputs) or len(inputs) > MOST_INPUTS:
            raise BadBook("many", 0)
        self.n = houses
        self.m = values
        self.inputs = tuple(sorted(set(_checked_inputs(houses, values, inputs))))
        self._held = {entry: True for entry in self.inputs}

    def __eq__(self, other):
        return isinstance(other, Book) and self.n == other.n and self.m == other.m and self.inputs == other.inputs

    def __len__(self):
        return len(self.inputs)

    def __iter__(self):
        return iter(self.inputs)

    def __contains__(self, thing):
        return is_whole_row(thing) and tuple(thing) in self._held

    def going_on(self, view):
        checked = check_view(self.n, self.m, view)
        return tuple([entry for entry in self.inputs if goes_on(checked, entry)])

    def first_going_on(self, view):
        checked = check_view(self.n, self.m, view)
        for entry in self.inputs:
            if goes_on(checked, entry):
                return entry
        return None

    def with_entry(self, entry):
        checked = check_entry(self.n, self.m, entry)
        if checked in self:
            return self
        return Book(self.n, self.m, (*self.inputs, checked))

    def without_entry(self, entry):
        if entry not in self:
            raise NotInBook(entry)
        left_out = tuple(entry)
        return Book(self.n, self.m, [other for other in self.inputs if other != left_out])


def _checked_inputs(houses, values, inputs):
    checked = []
    for index in range(len(inputs)):
        try:
            entry = check_entry(houses, values, inputs[index])
        except BadInput:
            raise BadBook("input", index) from None
        checked.append(entry)
    return checked


def book_of(falls, values, rule):
    if not is_whole(values, 1, 4):
        raise BadBook("values", 0)
    checked = check_rule(falls.n, values, rule)
    return Book(falls.n, values, [entry for entry in all_inputs(falls.n, values) if holds_for(falls, checked, entry)])


def check_alike(one, other):
    if one.n != other.n or one.m != other.m:
        raise UnlikeBooks()


def book_within(one, other):
    check_alike(one, other)
    return all([entry in other for entry in one.inputs])


def joined_books(one, other):
    check_alike(one, other)
    return Book(one.n, one.m, one.inputs + book_less(other, one).inputs)


def shared_book(one, other):
    check_alike(one, other)
    return Book(one.n, one.m, [entry for entry in one.inputs if entry in other])


def book_less(one, other):
    check_alike(one, other)
    return Book(one.n, one.m, [entry for entry in one.inputs if entry not in other])


def opposite_book(book):
    return Book(book.n, book.m, [entry for entry in all_inputs(book.n, book.m) if entry not in book])
