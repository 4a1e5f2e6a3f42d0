"""Faces of a book, and books and families side by side."""

from firmvalues.books import MOST_INPUTS, Book
from firmvalues.errors import BadBook, BadFalls, UnlikeBooks
from firmvalues.falls import Falls
from firmvalues.linking import check_meeting, inputs_by_view

MOST_HOUSES = 5


def each_face(book, falls):
    check_meeting(book, falls)
    for lot in falls.lots:
        faces = inputs_by_view(book, lot)
        for view in faces:
            yield lot, view, tuple(faces[view])


def beside_books(one, other):
    if one.m != other.m:
        raise UnlikeBooks()
    if one.n + other.n > MOST_HOUSES:
        raise BadBook("houses", 0)
    if len(one) * len(other) > MOST_INPUTS:
        raise BadBook("many", 0)
    inputs = [entry + behind for entry in one.inputs for behind in other.inputs]
    return Book(one.n + other.n, one.m, inputs)


def beside_falls(one, other):
    if one.n + other.n > MOST_HOUSES:
        raise BadFalls("houses", 0)
    raised = [tuple([house + one.n for house in lot]) for lot in other.lots]
    return Falls(one.n + other.n, [lot + behind for lot in one.lots for behind in raised])
