"""Manners, firm values, and values that fit."""

from firmvalues.errors import BadManner
from firmvalues.falls import lot_within

MANNERS = ("sure", "cells", "letters")
NET_MANNERS = ("sure", "letters")


def check_manner(manner):
    if manner not in MANNERS:
        raise BadManner(manner)
    return manner


def places_of(entry, value):
    return tuple([house for house in range(len(entry)) if entry[house] == value])


def is_firm(falls, entry, value):
    return not falls.lets(places_of(entry, value))


def firm_values(falls, entry):
    return tuple([value for value in sorted(set(entry)) if is_firm(falls, entry, value)])


def hiding_lot(falls, entry, value):
    places = places_of(entry, value)
    for lot in falls.lots:
        if lot_within(places, lot):
            return lot
    return None


def fits(falls, manner, entry, value):
    check_manner(manner)
    if manner == "sure":
        return value in entry
    return is_firm(falls, entry, value)


def fitting_values(falls, manner, entries):
    check_manner(manner)
    if len(entries) == 0:
        return ()
    stand = sorted(set(entries[0]))
    return tuple([value for value in stand if first_unfit(falls, manner, entries, value) is None])


def first_unfit(falls, manner, entries, value):
    check_manner(manner)
    for index in range(len(entries)):
        if not fits(falls, manner, entries[index], value):
            return index
    return None
