"""firmvalues.falls: points 1.5 to 1.7, over all families of few houses."""

import itertools
import random
import unittest

from firmvalues import falls
from firmvalues.falls import Falls
from reckon import NO_SEQUENCES, all_families, error_of, let_by, lots_of, some_families

NO_HOUSES = (True, False, None, -1, 3, "0", 0.0, (0,), [1])
NO_COUNTS = (True, None, "3", 3.0, [3], (), -1, 0, 1, 6)


class TestLots(unittest.TestCase):
    def test_check_lot_orders_and_drops_doubles(self):
        for n in range(1, 6):
            for lot in lots_of(n):
                for given in itertools.permutations(lot + lot[:2]):
                    self.assertEqual(falls.check_lot(n, list(given)), lot)
                    self.assertEqual(falls.check_lot(n, given), lot)

    def test_check_lot_refuses(self):
        for thing in NO_SEQUENCES:
            self.assertEqual(error_of(falls.check_lot, 3, thing), ("BadLot",))
        for house in NO_HOUSES:
            for lot in ([house], [0, house], (house, 1), [house, house]):
                self.assertEqual(error_of(falls.check_lot, 3, lot), ("BadLot",))
        self.assertEqual(falls.check_lot(4, [3, 0, 3]), (0, 3))

    def test_lot_within(self):
        for n in range(1, 6):
            for one, other in itertools.product(lots_of(n), lots_of(n)):
                self.assertIs(falls.lot_within(one, other), set(one) <= set(other))

    def test_lots_of_size(self):
        for n in range(1, 6):
            for size in range(n + 1):
                self.assertEqual(falls.lots_of_size(n, size), tuple(itertools.combinations(range(n), size)))


class TestFamilies(unittest.TestCase):
    def check_family(self, n, given, family):
        let = let_by(n, given)
        self.assertEqual(family.n, n)
        greatest = sorted(tuple(sorted(lot)) for lot in let if not any(lot < other for other in let))
        self.assertEqual(family.lots, tuple(greatest))
        self.assertEqual(family.sure, tuple(house for house in range(n) if frozenset([house]) not in let))
        every = sorted((tuple(sorted(lot)) for lot in let), key=lambda lot: (len(lot), lot))
        self.assertEqual(list(family.each_lot()), every)
        couples = [(a, b) for a, b in itertools.combinations(greatest, 2) if set(a) | set(b) == set(range(n))]
        self.assertEqual(family.covering, couples[0] if couples else None)
        quorums = [lot for lot in lots_of(n) if frozenset(range(n)) - frozenset(lot) in let]
        for lot in lots_of(n):
            self.assertIs(family.lets(lot), frozenset(lot) in let)
            self.assertIs(family.lets(list(reversed(lot)) + list(lot)), frozenset(lot) in let)
            self.assertIs(family.is_quorum(lot), lot in quorums)
            self.assertIs(family.is_quorum([*reversed(lot), *lot]), lot in quorums)
        meeting = all(set(one) & set(other) for one in quorums for other in quorums)
        self.assertIs(meeting, family.covering is None)

    def test_all_families_of_few_houses(self):
        self.assertEqual([len(all_families(n)) for n in (2, 3, 4)], [4, 18, 166])
        for n in (2, 3, 4):
            for lots in all_families(n):
                self.check_family(n, lots, Falls(n, lots))

    def test_families_given_with_doubles_and_in_any_order(self):
        drawn = random.Random(11)
        for _ in range(400):
            n = drawn.randint(2, 5)
            proper = [lot for lot in lots_of(n) if len(lot) < n]
            given = drawn.choices(proper, k=drawn.randint(0, 8))
            passed = [drawn.choices(lot, k=9) + list(lot) if lot else [] for lot in given]
            kept = [list(lot) for lot in passed]
            family = Falls(n, passed)
            self.assertEqual(passed, kept)
            self.check_family(n, given, family)
            for lot in passed:
                lot.append(0)
            passed.clear()
            self.check_family(n, given, family)

    def test_nothing_let_but_the_empty_lot(self):
        for n in range(2, 6):
            for given in ([], (), [()], [[], []]):
                family = Falls(n, given)
                self.assertEqual((family.lots, family.sure, family.covering), (((),), tuple(range(n)), None))
                self.assertEqual(list(family.each_lot()), [()])

    def test_each_lot_is_a_generator(self):
        lots = Falls(2, [(0,)]).each_lot()
        self.assertIs(iter(lots), lots)
        self.assertEqual(next(lots), ())

    def test_covering_is_the_first_couple(self):
        self.assertEqual(Falls(4, [(2, 3), (0, 1, 2), (1, 2, 3), (0, 3)]).covering, ((0, 1, 2), (0, 3)))
        self.assertEqual(Falls.at_most(4, 2).covering, ((0, 1), (2, 3)))
        self.assertIsNone(Falls.at_most(5, 2).covering)

    def test_equal_exactly_if_they_let_the_same(self):
        every = [(n, lots, Falls(n, lots)) for n in (2, 3) for lots in all_families(n)]
        for (n, one, first), (k, other, second) in itertools.product(every, every):
            alike = n == k and let_by(n, one) == let_by(k, other)
            self.assertIs(first == second, alike)
            self.assertIs(first != second, not alike)
        for other in (None, 2, ((0,),), (2, ((0,),)), "x"):
            self.assertFalse(Falls(2, [(0,)]) == other)

    def test_falls_within(self):
        for n in (2, 3):
            for one, other in itertools.product(all_families(n), all_families(n)):
                within = let_by(n, one) <= let_by(n, other)
                self.assertIs(falls.falls_within(Falls(n, one), Falls(n, other)), within)

    def test_with_lot(self):
        for n in (2, 3, 4):
            for lots in some_families(n, 30, 2):
                for lot in lots_of(n)[:-1]:
                    family = Falls(n, lots)
                    wider = family.with_lot(list(reversed(lot)) + list(lot))
                    self.check_family(n, (*lots, lot), wider)
                    self.check_family(n, lots, family)

    def test_with_lot_refuses(self):
        for lots in ([], [(0,)], [(0,), (1, 2)], [(0,), (1,), (2,)]):
            family = Falls(3, lots)
            at = len(family.lots)
            for lot in (*NO_SEQUENCES, [3], [True], [0, None], (0, 1, 2, 3)):
                self.assertEqual(error_of(family.with_lot, lot), ("BadFalls", "lot", at))
            for lot in ([0, 1, 2], (2, 1, 0, 0)):
                self.assertEqual(error_of(family.with_lot, lot), ("BadFalls", "all", at))

    def test_led(self):
        for n in (2, 3, 4):
            for lots in some_families(n, 30, 3):
                for order in itertools.permutations(range(n)):
                    led = [[order[house] for house in lot] for lot in lots]
                    self.check_family(n, led, Falls(n, lots).led(list(order)))

    def test_at_most(self):
        for n in range(2, 6):
            for count in range(n):
                self.check_family(n, list(itertools.combinations(range(n), count)), Falls.at_most(n, count))
                self.assertEqual(Falls.at_most(n, count), Falls(n, falls.lots_of_size(n, count)))


class TestRefusals(unittest.TestCase):
    def test_houses_ahead_of_lots(self):
        for houses in NO_COUNTS:
            for lots in ([], None, [None], [[0, 1]]):
                self.assertEqual(error_of(Falls, houses, lots), ("BadFalls", "houses", 0))
            for count in (0, 1, None, True):
                self.assertEqual(error_of(Falls.at_most, houses, count), ("BadFalls", "houses", 0))

    def test_lots_is_a_sequence_of_at_most_32(self):
        for lots in NO_SEQUENCES:
            self.assertEqual(error_of(Falls, 3, lots), ("BadFalls", "lots", 0))
        self.assertEqual(Falls(3, [(0,)] * 32).lots, ((0,),))
        for lots in ([(0,)] * 33, [None] * 33, [(0, 1, 2)] * 33):
            self.assertEqual(error_of(Falls, 3, lots), ("BadFalls", "lots", 0))

    def test_the_first_wrong_entry_is_told(self):
        no_lots = [*NO_SEQUENCES, [3], [-1], [True], [None], [0, 1, 2, 3], [[0]]]
        for index in range(3):
            for lot in no_lots:
                for later in ((0,), None, (0, 1, 2)):
                    lots = [(0,)] * index + [lot, later]
                    self.assertEqual(error_of(Falls, 3, lots), ("BadFalls", "lot", index))
            for lot in ([0, 1, 2], (2, 0, 1, 0)):
                for later in ((0,), None, (0, 1, 2)):
                    lots = [(0,)] * index + [lot, later]
                    self.assertEqual(error_of(Falls, 3, lots), ("BadFalls", "all", index))

    def test_count(self):
        for n in range(2, 6):
            for count in (-1, n, n + 1, True, False, None, "1", 1.0, (1,)):
                self.assertEqual(error_of(Falls.at_most, n, count), ("BadFalls", "count", 0))


if __name__ == "__main__":
    unittest.main()
