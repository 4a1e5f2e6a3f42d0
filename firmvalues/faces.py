"""Faces of a book, and books and families side by side: what is made beyond a bound refuses itself."""

from firmvalues.books import Book
from firmvalues.errors import UnlikeBooks
from firmvalues.falls import Falls
from firmvalues.linking import check_meeting, inputs_by_view


def each_face(book, falls):
    check_meeting(book, falls)
    for lot in falls.lots:
        faces = inputs_by_view(book, lot)
        for view in faces:
            yield lot, view, tuple(faces[view])


def beside_books(one, other):
    if one.m != other.m:
        raise UnlikeBooks()
    inputs = [entry + behind for entry in one.inputs for behind in other.inputs]
    return Book(one.n + other.n, one.m, inputs)


def beside_falls(one, other):
    raised = [tuple([house + one.n for house in lot]) for lot in other.lots]
    return Falls(one.n + other.n, [lot + behind for lot in one.lots for behind in raised])
