"""Clashes of all manners, also with other trees and other inputs in the place of those that `decide` names."""

import random

from firmvalues.books import Book
from firmvalues.falls import Falls
from firmvalues.outcomes import Clash, decide, trimmed_clash
from reckon import fits_by, inputs_of, let_by, near_by, some_families

ALL = ("sure", "cells", "letters")


def other_clash(drawn, book, falls, clash):
    """A right clash over the same inputs: another tree, drawn from any of them, and any inputs that do not fit."""
    n, m = book.n, book.m
    let = let_by(n, falls.lots)
    inputs = [entry for entry, _ in clash.tree]
    drawn.shuffle(inputs)
    tree = [(inputs.pop(), None)]
    while inputs:
        at = next(k for k, entry in enumerate(inputs)
                  if any(near_by(let, n, clash.manner, entry, other) for other, _ in tree))
        entry = inputs.pop(at)
        parents = [k for k, (other, _) in enumerate(tree) if near_by(let, n, clash.manner, entry, other)]
        tree.append((entry, drawn.choice(parents)))
    fails = [drawn.choice([entry for entry, _ in tree if not fits_by(let, clash.manner, entry, value)])
             for value in range(m)]
    return Clash(clash.manner, tree, fails)


def some_clashes(many, seed, houses=(2, 3), manners=ALL, values=(2, 3)):
    """Quadruples (drawn, book, family, clash)."""
    drawn = random.Random(seed)
    for n in houses:
        families = some_families(n, 20, seed)
        for manner in manners:
            found = 0
            while found < many:
                m = drawn.choice([m for m in values if m < 3 or n < 4])
                inputs = inputs_of(n, m)
                some = drawn.sample(inputs, drawn.randint(2, min(len(inputs), 12)))
                book, falls = Book(n, m, drawn.choice([some, some, inputs])), Falls(n, drawn.choice(families))
                clash = decide(book, falls, manner)
                if isinstance(clash, Clash):
                    found += 1
                    yield drawn, book, falls, drawn.choice([clash, trimmed_clash(clash),
                                                            other_clash(drawn, book, falls, clash)])
