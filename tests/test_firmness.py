"""firmvalues.firmness: points 3.1 to 3.3, over all inputs of small worlds."""

import itertools
import random
import unittest

from firmvalues import firmness
from firmvalues.falls import Falls
from reckon import MANNERS, error_of, fits_by, inputs_of, let_by, some_families

NO_MANNERS = (None, True, 0, "", "Sure", "cell", "sure ", b"sure", ["sure"], ("sure",), {"sure"}, {"sure": 1}, MANNERS)


def small_worlds():
    for n, m in itertools.product(range(2, 6), range(1, 5)):
        inputs = inputs_of(n, m)
        if len(inputs) > 81:
            inputs = random.Random(n * m).sample(inputs, 60)
        for lots in some_families(n, 12, m):
            yield n, m, inputs, let_by(n, lots), Falls(n, lots)


class TestFirmness(unittest.TestCase):
    def test_manners(self):
        self.assertEqual(firmness.MANNERS, ("sure", "cells", "letters"))
        for manner in MANNERS:
            self.assertEqual(firmness.check_manner(manner), manner)
        for manner in NO_MANNERS:
            self.assertEqual(error_of(firmness.check_manner, manner), ("BadManner", manner))

    def test_firm_values(self):
        for n, m, inputs, let, falls in small_worlds():
            for entry in inputs:
                firm = []
                for value in range(m):
                    places = tuple(house for house in range(n) if entry[house] == value)
                    self.assertEqual(firmness.places_of(entry, value), places)
                    is_firm = frozenset(places) not in let
                    self.assertIs(firmness.is_firm(falls, entry, value), is_firm)
                    hiding = [lot for lot in falls.lots if set(places) <= set(lot)]
                    self.assertEqual(firmness.hiding_lot(falls, entry, value), hiding[0] if hiding else None)
                    self.assertIs(is_firm, not hiding)
                    firm += [value] if is_firm else []
                self.assertEqual(firmness.firm_values(falls, entry), tuple(firm))

    def test_no_house_has_the_value(self):
        falls = Falls(3, [(1,), (0, 2)])
        self.assertFalse(firmness.is_firm(falls, (0, 0, 0), 1))
        self.assertEqual(firmness.places_of((0, 0, 0), 1), ())
        self.assertEqual(firmness.hiding_lot(falls, (0, 0, 0), 1), (0, 2))
        self.assertEqual(firmness.hiding_lot(Falls(3, []), (0, 0, 0), 1), ())

    def test_a_firm_value_stands_in_all_inputs_that_differ_within_a_let_lot(self):
        for n, m, inputs, let, falls in small_worlds():
            if n < 4 and m < 4:
                for entry, other in itertools.product(inputs, inputs):
                    if frozenset(house for house in range(n) if entry[house] != other[house]) in let:
                        self.assertLessEqual(set(firmness.firm_values(falls, entry)), set(other))

    def test_fits(self):
        for n, m, inputs, let, falls in small_worlds():
            for manner, entry, value in itertools.product(MANNERS, inputs, range(m)):
                self.assertIs(firmness.fits(falls, manner, entry, value), fits_by(let, manner, entry, value))

    def test_values_that_fit_several_inputs(self):
        drawn = random.Random(5)
        for n, m, inputs, let, falls in small_worlds():
            for manner in MANNERS:
                for many in (0, 1, 1, 2, 3, 5):
                    entries = drawn.choices(inputs, k=many)
                    fitting = [v for v in range(m) if all(fits_by(let, manner, entry, v) for entry in entries)]
                    wanted = tuple(fitting) if entries else ()
                    self.assertEqual(firmness.fitting_values(falls, manner, entries), wanted)
                    self.assertEqual(firmness.fitting_values(falls, manner, tuple(entries)), wanted)
                    for value in range(m):
                        unfit = [at for at in range(many) if not fits_by(let, manner, entries[at], value)]
                        told = firmness.first_unfit(falls, manner, entries, value)
                        self.assertEqual(told, unfit[0] if unfit else None)

    def test_wrong_manners(self):
        falls = Falls(2, [(0,)])
        for manner in NO_MANNERS:
            self.assertEqual(error_of(firmness.fits, falls, manner, (0, 1), 0), ("BadManner", manner))
            for entries in ((), [(0, 1)]):
                self.assertEqual(error_of(firmness.fitting_values, falls, manner, entries), ("BadManner", manner))
                self.assertEqual(error_of(firmness.first_unfit, falls, manner, entries, 0), ("BadManner", manner))


if __name__ == "__main__":
    unittest.main()
