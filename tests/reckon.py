"""Plain second reckonings by the words of the points, and the worlds to try them on."""

import itertools
import random

from firmvalues.books import Book
from firmvalues.falls import Falls

MANNERS = ("sure", "cells", "letters")
NO_SEQUENCES = (None, 5, "01", "all", {0: 0, 1: 1}, {0, 1}, {}, set(), True)


def rows(signs, length):
    return list(itertools.product(signs, repeat=length))


def inputs_of(n, m):
    return rows(range(m), n)


def lots_of(n):
    return [lot for size in range(n + 1) for lot in itertools.combinations(range(n), size)]


def let_by(n, given):
    """All lots that are let, as sets: those within one of the given lots, and the empty one."""
    return {frozenset(lot) for lot in lots_of(n) if not lot or any(set(lot) <= set(other) for other in given)}


def all_families(n):
    """For each family of n houses its greatest lots."""
    proper = [frozenset(lot) for lot in lots_of(n) if 0 < len(lot) < n]
    found = [()]

    def add(at, chosen):
        for k in range(at, len(proper)):
            if not any(proper[k] <= lot or lot <= proper[k] for lot in chosen):
                found.append(tuple(tuple(sorted(lot)) for lot in chosen + [proper[k]]))
                add(k + 1, chosen + [proper[k]])

    add(0, [])
    return found


def some_families(n, most, seed):
    """All families if there are few, else drawn ones, with the plainest kinds always among them."""
    if n < 4:
        return all_families(n)
    drawn = random.Random(seed)
    plain = [(), tuple((h,) for h in range(n)), ((0,),), tuple(itertools.combinations(range(n), 2)),
             tuple(itertools.combinations(range(n), n - 1)), ((0, 1), tuple(range(1, n))), ((0,), tuple(range(1, n))),
             (tuple(range(n - 1)),)]
    while len(plain) < most:
        proper = [lot for lot in lots_of(n) if len(lot) < n]
        plain.append(tuple(drawn.sample(proper, drawn.randint(1, 5))))
    return plain[:most]


def fits_by(let, manner, entry, value):
    places = frozenset(house for house in range(len(entry)) if entry[house] == value)
    if manner == "sure":
        return len(places) > 0
    return places not in let


def splits_by(let, n, manner):
    return manner == "letters" and any(one | other == set(range(n)) for one in let for other in let)


def near_by(let, n, manner, one, other):
    differ = frozenset(house for house in range(n) if one[house] != other[house])
    return len(differ) > 0 and (differ in let or splits_by(let, n, manner))


def groups_by(let, n, manner, inputs):
    """The groups as ascending tuples, ascending by their least inputs: single inputs, joined while some are near."""
    split = splits_by(let, n, manner)
    groups = [[entry] for entry in sorted(inputs)]
    if split:
        return [tuple(sorted(inputs))] if inputs else []
    joined = True
    while joined:
        joined = False
        for one, other in itertools.combinations(groups, 2):
            if any(near_by(let, n, manner, a, b) for a in one for b in other):
                groups.remove(other)
                one.extend(other)
                joined = True
                break
    return sorted(tuple(sorted(group)) for group in groups)


def values_by(let, manner, m, group):
    return tuple(value for value in range(m) if all(fits_by(let, manner, entry, value) for entry in group))


def are_outcomes_by(let, n, m, manner, inputs, told):
    if not all(fits_by(let, manner, entry, value) for entry, value in zip(inputs, told)):
        return False
    couples = itertools.combinations(range(len(inputs)), 2)
    return all(told[a] == told[b] for a, b in couples if near_by(let, n, manner, inputs[a], inputs[b]))


def worlds(most_inputs, many, seed, houses=(2, 3, 4, 5)):
    """Couples (book, family) of all kinds, drawn ones too."""
    drawn = random.Random(seed)
    for n in houses:
        families = some_families(n, 20, seed)
        for m in (1, 2, 3, 4):
            inputs = inputs_of(n, m)
            for _ in range(many):
                some = drawn.sample(inputs, drawn.randint(0, min(len(inputs), most_inputs)))
                some += drawn.choices(some, k=2) if some else []
                yield Book(n, m, some), Falls(n, drawn.choice(families))
            if len(inputs) <= most_inputs:
                yield Book(n, m, inputs), Falls(n, drawn.choice(families))
        yield Book(n, 2, []), Falls(n, drawn.choice(families))


def error_of(call, *args, **more):
    """The name of the error that a call raises and its attributes; None if it raises none."""
    try:
        call(*args, **more)
    except ValueError as error:
        return (type(error).__name__, *vars(error).values())
    return None
