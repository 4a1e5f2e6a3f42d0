"""firmvalues.inputs: points 1.1 to 1.4, against plain second reckonings."""

import itertools
import random
import unittest

from firmvalues import inputs
from reckon import NO_SEQUENCES, error_of, inputs_of, lots_of, rows

SMALL = [(n, m) for n in range(1, 6) for m in range(1, 5) if m ** n <= 260]
SIZES = [(n, m) for n in range(1, 6) for m in range(1, 5)]


class TestRows(unittest.TestCase):
    def test_is_whole(self):
        for thing in (0, 1, -1, 7, 10 ** 30):
            self.assertIs(inputs.is_whole(thing), True)
        for thing in (True, False, None, "1", 1.0, (1,), [1], {1}, b"1"):
            self.assertIs(inputs.is_whole(thing), False)
            self.assertIs(inputs.is_whole(thing, 0, 5), False)
        for thing, low, high in itertools.product(range(-3, 4), (None, -1, 0, 2), (None, -2, 0, 1)):
            wanted = (low is None or thing >= low) and (high is None or thing <= high)
            self.assertIs(inputs.is_whole(thing, low, high), wanted)
            self.assertIs(inputs.is_whole(thing, high=high, low=low), wanted)

    def test_all_inputs_are_in_order(self):
        for n, m in SIZES:
            told = inputs.all_inputs(n, m)
            self.assertEqual(told, tuple(inputs_of(n, m)))
            self.assertEqual(list(told), sorted(told))

    def test_each_view_is_a_generator_in_order(self):
        for n, m in SIZES:
            views = inputs.each_view(n, m)
            self.assertIs(iter(views), views)
            self.assertEqual(list(views), rows([None, *range(m)], n))

    def test_heard_and_unheard_houses(self):
        for n, m in SMALL:
            for view in rows([None, *range(m)], n):
                heard = tuple(house for house in range(n) if view[house] is not None)
                self.assertEqual(inputs.heard_houses(view), heard)
                self.assertEqual(inputs.unheard_houses(view), tuple(sorted(set(range(n)) - set(heard))))

    def test_goes_on_over_all_views_and_inputs(self):
        for n, m in [(n, m) for n, m in SMALL if (m + 1) ** n * m ** n < 40000]:
            for view in rows([None, *range(m)], n):
                going = {entry for entry in inputs_of(n, m) if all(v in (None, e) for v, e in zip(view, entry))}
                for entry in inputs_of(n, m):
                    self.assertIs(inputs.goes_on(view, entry), entry in going)

    def test_couples_of_views(self):
        for n, m in [(1, 4), (2, 1), (2, 4), (3, 2), (3, 3), (4, 1), (4, 2), (5, 1)]:
            views = rows([None, *range(m)], n)
            going = {view: {entry for entry in inputs_of(n, m) if inputs.goes_on(view, entry)} for view in views}
            for one, other in itertools.product(views, views):
                within = all(a is None or a == b for a, b in zip(one, other))
                self.assertIs(inputs.view_within(one, other), within)
                differ = [house for house in range(n) if one[house] != other[house]]
                self.assertEqual(inputs.differing(one, other), tuple(differ))
                if going[one] & going[other]:
                    joined = inputs.join_views(one, other)
                    self.assertEqual(going[joined], going[one] & going[other])
                    self.assertEqual(joined, tuple(b if a is None else a for a, b in zip(one, other)))
                else:
                    clashing = [house for house in differ if None not in (one[house], other[house])]
                    self.assertEqual(error_of(inputs.join_views, one, other), ("UnlikeViews", clashing[0]))

    def test_joined_view_is_the_least_above_both(self):
        views = rows([None, 0, 1], 3)
        for one, other in itertools.product(views, views):
            above = [view for view in views if inputs.view_within(one, view) and inputs.view_within(other, view)]
            if above:
                least = [view for view in above if all(inputs.view_within(view, more) for more in above)]
                self.assertEqual([inputs.join_views(one, other)], least)

    def test_differing_tells_none_from_nought(self):
        self.assertEqual(inputs.differing((None, 0, 1), (0, 0, None)), (0, 2))

    def test_shown_views(self):
        for n, m in SMALL:
            for entry, lot in itertools.product(inputs_of(n, m), lots_of(n)):
                shown = inputs.shown_view(entry, lot)
                self.assertEqual(shown, tuple(entry[h] if h in lot else None for h in range(n)))
                self.assertEqual(inputs.heard_houses(shown), lot)


class TestChecks(unittest.TestCase):
    def test_right_rows_come_back_as_tuples(self):
        for n, m in SMALL:
            for entry in inputs_of(n, m):
                passed = list(entry)
                told = inputs.check_entry(n, m, passed)
                passed[0] = 9
                self.assertEqual((type(told), told), (tuple, entry))
                self.assertEqual(inputs.check_entry(n, m, entry), entry)
            for view in rows([None, *range(m)], n):
                self.assertEqual(inputs.check_view(n, m, list(view)), view)
                self.assertIs(type(inputs.check_view(n, m, list(view))), tuple)

    def test_no_sequences_and_wrong_lengths(self):
        for thing in (*NO_SEQUENCES, iter([0, 1]), (), (0,), [0, 0, 0], b"\x00\x01"):
            self.assertEqual(error_of(inputs.check_entry, 2, 2, thing), ("BadInput", "length", 0))
            self.assertEqual(error_of(inputs.check_view, 2, 2, thing), ("BadView", "length", 0))

    def test_the_first_wrong_value_is_told(self):
        wrong = (True, False, None, -1, 2, "0", 0.0, (0,), [0])
        for n in (2, 3, 4):
            for house in range(n):
                for thing, later in itertools.product(wrong, (0, *wrong)):
                    entry = [1] * house + [thing] + [later] * (n - house - 1)
                    self.assertEqual(error_of(inputs.check_entry, n, 2, entry), ("BadInput", "value", house))
                    if thing is not None:
                        view = [None] * house + [thing] + [later] * (n - house - 1)
                        self.assertEqual(error_of(inputs.check_view, n, 2, view), ("BadView", "value", house))
        self.assertEqual(error_of(inputs.check_entry, 2, 2, (9, 9, 9)), ("BadInput", "length", 0))

    def test_the_bound_is_the_number_of_values(self):
        for m in range(1, 5):
            self.assertEqual(inputs.check_entry(2, m, [m - 1, 0]), (m - 1, 0))
            self.assertEqual(error_of(inputs.check_entry, 2, m, [0, m]), ("BadInput", "value", 1))
            self.assertEqual(error_of(inputs.check_view, 2, m, [None, m]), ("BadView", "value", 1))


class TestLeading(unittest.TestCase):
    def test_leading_over_all_views_orders_and_names(self):
        for n, m in [(1, 1), (2, 2), (3, 2), (2, 3), (4, 2)]:
            for order, names in itertools.product(itertools.permutations(range(n)), itertools.permutations(range(m))):
                for view in rows([None, *range(m)], n):
                    led = inputs.led_entry(view, order, names)
                    self.assertIs(type(led), tuple)
                    for house in range(n):
                        value = view[house]
                        self.assertEqual(led[order[house]], None if value is None else names[value])

    def test_leading_takes_lists_and_can_be_led_back(self):
        drawn = random.Random(7)
        for _ in range(300):
            order, names = drawn.sample(range(5), 5), drawn.sample(range(4), 4)
            entry = tuple(drawn.choices(range(4), k=5))
            back = [order.index(house) for house in range(5)], [names.index(value) for value in range(4)]
            self.assertEqual(inputs.led_entry(inputs.led_entry(entry, order, names), *back), entry)

    def test_check_leading_gives_tuples(self):
        order, names = [2, 0, 1], [1, 0]
        told = inputs.check_leading(3, 2, order, names)
        order[0] = 7
        self.assertEqual(told, ((2, 0, 1), (1, 0)))
        self.assertEqual([type(part) for part in told], [tuple, tuple])

    def test_check_leading_refuses(self):
        wrong = (*NO_SEQUENCES, (), [0], [0, 0], [0, 2], [1, 2], [-1, 0], [0, True], [False, 1], [0, None], ["0", "1"],
                 [0, 1, 1], [0, 1, 2], [0.0, 1], [[0], [1]])
        for thing in wrong:
            for names in ([0, 1], [0, 0], None):
                self.assertEqual(error_of(inputs.check_leading, 2, 2, thing, names), ("BadLeading", "order"))
            self.assertEqual(error_of(inputs.check_leading, 2, 2, (1, 0), thing), ("BadLeading", "names"))
        self.assertEqual(inputs.check_leading(2, 2, (1, 0), (1, 0)), ((1, 0), (1, 0)))


if __name__ == "__main__":
    unittest.main()
