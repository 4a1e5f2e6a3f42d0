"""firmvalues.splitting: points 10.3 to 10.5, over all orders, and every plan broken by clashes of all manners."""

import itertools
import random
import unittest

from firmvalues import splitting
from firmvalues.books import Book
from firmvalues.deciders import earliest_plan
from firmvalues.falls import Falls
from firmvalues.judging import judge_clash
from firmvalues.outcomes import Clash, Outcomes, decide, trimmed_clash
from firmvalues.splitting import PlanBreak, SplitRun, break_plan, exchange_values, order_for, plan_fault, split_run
from clashes import ALL, other_clash, some_clashes
from reckon import (NO_SEQUENCES, all_families, error_of, fits_by, inputs_of, let_by, lots_of, rows, some_families)

NO_VALUES = (True, False, None, "0", -1, (0,), 0.0)


def views_of(n, m):
    return [view for view in rows([None, *range(m)], n) if view != (None,) * n]


def drawn_plan(drawn, n, m):
    """Plans of all kinds: scattered ones, ones by a rule from so many values on, and those with a few changes."""
    kind = drawn.choice(["scattered", "rule", "rule", "changed", "full"])
    views = views_of(n, m)
    if kind == "scattered":
        return {view: drawn.randrange(m) for view in drawn.sample(views, drawn.randint(0, len(views)))}
    if kind == "full":
        return {view: drawn.randrange(m) for view in views}
    pick, wanted = drawn.choice([min, max, lambda heard: heard[0], lambda heard: heard[-1]]), drawn.randint(1, n)
    plan = {}
    for view in views:
        heard = [value for value in view if value is not None]
        if len(heard) >= wanted:
            plan[view] = pick(heard)
    if kind == "changed" and plan:
        for view in drawn.sample(list(plan), drawn.randint(1, min(3, len(plan)))):
            plan[view] = drawn.randrange(m)
            if drawn.random() < 0.3:
                del plan[view]
    if drawn.random() < 0.2:
        plan[(None,) * n] = drawn.randrange(m)
    return dict(drawn.sample(list(plan.items()), len(plan)))


def told_by_one(plan, entry, house, order):
    view = [None] * len(entry)
    for other in (house, *order):
        view[other] = entry[other]
        if tuple(view) in plan:
            return plan[tuple(view)]
    return None


def orders_of(n, house):
    others = [other for other in range(n) if other != house]
    return [order for size in range(n) for order in itertools.permutations(others, size)]


def drawn_orders(drawn, n):
    return tuple(drawn.choice(orders_of(n, house)) for house in range(n))


class TestExchanges(unittest.TestCase):
    def test_what_each_house_tells(self):
        drawn = random.Random(81)
        told_some = 0
        for _ in range(300):
            n, m = drawn.randint(2, 5), drawn.randint(1, 3)
            plan, entry = drawn_plan(drawn, n, m), drawn.choice(inputs_of(n, m))
            kept = dict(plan)
            orders = drawn_orders(drawn, n)
            wanted = tuple(told_by_one(plan, entry, house, orders[house]) for house in range(n))
            self.assertEqual(exchange_values(plan, entry, orders), wanted)
            self.assertEqual(exchange_values(plan, entry, [list(order) for order in orders]), wanted)
            self.assertEqual(plan, kept)
            told_some += wanted != (None,) * n
        self.assertGreater(told_some, 150)

    def test_all_orders(self):
        drawn = random.Random(82)
        for _ in range(150):
            n, m = drawn.randint(2, 5), drawn.randint(1, 3)
            plan, entry = drawn_plan(drawn, n, m), drawn.choice(inputs_of(n, m))
            for house in range(n):
                told = [(order, told_by_one(plan, entry, house, order)) for order in orders_of(n, house)]
                values = tuple(sorted({value for order, value in told if value is not None}))
                self.assertEqual(splitting.plan_values(plan, entry, house), values)
                for value in range(m + 1):
                    good = [order for order, one in told if one == value]
                    wanted = min(good, key=lambda order: (len(order), order)) if good else None
                    self.assertEqual(order_for(plan, entry, house, value), wanted)
                for value in NO_VALUES:
                    self.assertIsNone(order_for(plan, entry, house, value))

    def test_silent_orders(self):
        for n in range(2, 6):
            for lot in lots_of(n):
                for house in range(n):
                    wanted = tuple(other for other in range(n) if other != house and other not in lot)
                    self.assertEqual(splitting.silent_order(n, lot, house), wanted)

    def test_orders_that_are_none(self):
        plan, entry = {(0, 0, 0): 0}, (0, 0, 0)
        right = ((1, 2), (), [0])
        for orders in (*NO_SEQUENCES, (), right[:2], right * 2):
            self.assertEqual(error_of(exchange_values, plan, entry, orders), ("BadOrders", 0))
        for house in range(3):
            other = (house + 1) % 3
            for order in (*NO_SEQUENCES, (house,), (3,), (-1,), (True,), (False,), (None,), ("0",), (other, other),
                          (0.0,), ((1,),), [[1]], (other, None), range(0)):
                for later in (right, (None,) * 3):
                    orders = right[:house] + (order,) + later[house + 1:]
                    self.assertEqual(error_of(exchange_values, plan, entry, orders), ("BadOrders", house))
        self.assertEqual(exchange_values(plan, entry, right), (0, None, None))

    def test_by_hand(self):
        plan = {(0, None, 1): 1, (0, 1, None): 0, (None, 1, None): 1}
        self.assertEqual(exchange_values(plan, (0, 1, 1), [(1, 2), (), (0,)]), (0, 1, 1))
        self.assertEqual(exchange_values(plan, (0, 1, 1), [(2, 1), (0, 2), (1, 0)]), (1, 1, None))
        self.assertEqual(splitting.plan_values(plan, (0, 1, 1), 0), (0, 1))
        self.assertEqual(order_for(plan, (0, 1, 1), 0, 1), (2,))
        self.assertEqual(order_for(plan, (0, 1, 1), 2, 1), (0,))
        self.assertIsNone(order_for(plan, (0, 1, 1), 1, 0))
        self.assertEqual(order_for(plan, (0, 1, 1), 1, 1), ())


def breaks_by(plan, book, falls, manner, broken):
    """True if the break shows that the plan fails, by the words of point 10.4."""
    n, m = book.n, book.m
    told = [told_by_one(plan, broken.entry, house, broken.orders[house]) for house in range(n)]
    values = {value for value in told if value is not None}
    if broken.what == "waits":
        outside = [house for house in range(n) if house not in broken.lot]
        return (broken.entry in book.inputs and falls.lets(broken.lot) and broken.lot == tuple(sorted(set(broken.lot)))
                and all(set(broken.orders[h]) == set(outside) - {h} for h in outside)
                and any(told[house] is None for house in outside))
    known = broken.entry in (book.inputs if manner == "sure" else inputs_of(n, m))
    shown = len(values) > 1 if broken.what == "unlike" else not values <= set(broken.entry)
    return known and broken.lot == () and shown


class TestBreaks(unittest.TestCase):
    def check(self, plan, book, falls, clash, seen):
        broken = break_plan(plan, book, falls, clash)
        self.assertEqual(type(broken), PlanBreak)
        self.assertTrue(breaks_by(plan, book, falls, clash.manner, broken))
        self.assertIsNone(plan_fault(plan, book, falls, clash.manner, broken))
        seen[broken.what] = seen.get(broken.what, 0) + 1
        return broken

    def test_every_plan_of_two_houses(self):
        drawn = random.Random(83)
        clashing = [(Book(2, 2, some), Falls(2, lots), manner) for lots in all_families(2) for manner in ALL
                    for size in range(5) for some in itertools.combinations(inputs_of(2, 2), size)]
        clashing = [(book, falls, decide(book, falls, manner)) for book, falls, manner in clashing]
        clashing = [world for world in clashing if isinstance(world[2], Clash)]
        seen = {}
        for values in rows([None, 0, 1], 8):
            plan = {view: value for view, value in zip(views_of(2, 2), values) if value is not None}
            for book, falls, clash in drawn.sample(clashing, 3):
                self.check(plan, book, falls, clash, seen)
        for lots, manner in itertools.product(all_families(2), ALL):
            for book, falls, clash in clashing:
                if (falls.lots, clash.manner) == (Falls(2, lots).lots, manner):
                    for pick in (min, max):
                        plan = {view: pick(value for value in view if value is not None) for view in views_of(2, 2)}
                        self.check(plan, book, falls, clash, seen)
        self.assertEqual(sorted(seen), ["unlike", "unproposed", "waits"])

    def test_drawn_plans_and_clashes(self):
        seen = {}
        split = 0
        for drawn, book, falls, clash in some_clashes(40, 84, houses=(2, 3, 4, 5)):
            self.assertIsNone(judge_clash(book, falls, clash))
            for _ in range(6):
                broken = self.check(drawn_plan(drawn, book.n, book.m), book, falls, clash, seen)
                split += broken.what == "unlike" and broken.entry not in book
            for manner in ALL:
                smaller = Book(book.n, book.m, [entry for entry in book.inputs if drawn.random() < 0.5])
                outcomes = decide(smaller, falls, manner)
                if isinstance(outcomes, Outcomes):
                    for cells in ("sure", "cells"):
                        self.check(earliest_plan(smaller, falls, outcomes, cells), book, falls, clash, seen)
            outcomes = decide(book, falls, "cells")
            if isinstance(outcomes, Outcomes):
                broken = self.check(earliest_plan(book, falls, outcomes, "cells"), book, falls, clash, seen)
                split += broken.what == "unlike"
        self.assertGreater(min(seen.values()), 50, seen)
        self.assertGreater(split, 5)

    def test_one_value_alone(self):
        """Plans that always tell one value: only the clash's own input shows that they fail."""
        for drawn, book, falls, clash in some_clashes(20, 85, houses=(2, 3, 4)):
            for value in range(book.m):
                plan = {view: value for view in views_of(book.n, book.m)}
                broken = self.check(plan, book, falls, clash, {})
                self.assertEqual(broken.what, "unproposed")
                self.assertNotIn(value, broken.entry)

    def test_halves_that_hear_nothing_of_one_another(self):
        """In the case SPLIT, plans that are right for all neighbours are broken by inputs that are none."""
        falls = Falls(4, [(0, 1), (2, 3)])
        book = Book(4, 2, [(0, 0, 0, 0), (1, 1, 1, 1)])
        outcomes = decide(book, falls, "cells")
        clash = decide(book, falls, "letters")
        self.assertIsInstance(clash, Clash)
        broken = break_plan(earliest_plan(book, falls, outcomes, "cells"), book, falls, clash)
        self.assertEqual((broken.what, broken.lot), ("unlike", ()))
        self.assertEqual(sorted(broken.entry), [0, 0, 1, 1])

    def test_right_breaks_and_spoilt_ones(self):
        drawn = random.Random(86)
        seen = {}
        for drawn, book, falls, clash in some_clashes(25, 87, houses=(2, 3, 4)):
            plans = [drawn_plan(drawn, book.n, book.m) for _ in range(3)]
            value = drawn.randrange(book.m)
            plans.append({view: value for view in views_of(book.n, book.m)
                          if falls.lets([house for house in range(book.n) if view[house] is None])})
            for plan in plans:
                broken = break_plan(plan, book, falls, clash)
                for word, spoilt in self.spoilt(drawn, plan, book, falls, clash.manner, broken):
                    told = plan_fault(plan, book, falls, clash.manner, spoilt)
                    self.assertEqual(told, word, vars(spoilt))
                    seen[broken.what, word] = seen.get((broken.what, word), 0) + 1
        for what in ("waits", "unlike", "unproposed"):
            for word in ("what", "entry", "orders", "lot", "told"):
                self.assertGreater(seen[what, word], 10, seen)
        self.assertGreater(seen["waits", "heard"], 10)

    def spoilt(self, drawn, plan, book, falls, manner, broken):
        n, m, parts = book.n, book.m, vars(broken)

        def with_parts(**more):
            return PlanBreak(**{**parts, **more})
        for wrong in (None, "wait", "", 0, True, ("waits",), [], {}):
            yield "what", with_parts(what=wrong)
            yield "what", PlanBreak(wrong, None, None, None)
        for wrong in (None, "00", (), broken.entry + (0,), (m,) * n, (True,) + broken.entry[1:], (None,) * n, 5):
            yield "entry", with_parts(entry=wrong)
            yield "entry", with_parts(entry=wrong, orders=None, lot=None)
        beyond = [entry for entry in inputs_of(n, m) if entry not in book]
        if beyond and (manner == "sure" or broken.what == "waits"):
            yield "entry", with_parts(entry=drawn.choice(beyond))
        orders = broken.orders
        house = drawn.randrange(n)
        for wrong in (None, "0", (house,), (n,), (True,), 5, ((house + 1) % n,) * 2):
            yield "orders", with_parts(orders=orders[:house] + (wrong,) + orders[house + 1:], lot=None)
        for wrong in (None, (), orders[1:], orders + ((),), 7):
            yield "orders", with_parts(orders=wrong)
        if broken.what != "waits":
            for wrong in ((0,), None, (None,), (9,), "", 0):
                yield "lot", with_parts(lot=wrong)
            yield from self.without_values(drawn, plan, broken, with_parts)
            return
        for wrong in (None, (n,), (True,), (-1,), tuple(range(n)), (0, 0), "0", 5, (None,), *lots_of(n)):
            if not isinstance(wrong, tuple) or wrong not in list(falls.each_lot()) or True in [x is True for x in wrong]:
                yield "lot", with_parts(lot=wrong)
        if len(broken.lot) > 1:
            yield "lot", with_parts(lot=broken.lot[::-1])
        outside = [house for house in range(n) if house not in broken.lot]
        house = drawn.choice(outside)
        if orders[house]:
            yield "heard", with_parts(orders=orders[:house] + (orders[house][1:],) + orders[house + 1:])
            turned = orders[:house] + (orders[house][::-1],) + orders[house + 1:]
            told = [told_by_one(plan, broken.entry, other, turned[other]) for other in outside]
            yield None if None in told else "told", with_parts(orders=turned)
        for lot in falls.each_lot():
            others = [house for house in range(n) if house not in lot]
            if any(set(orders[house]) != set(others) - {house} for house in others):
                yield "heard", with_parts(lot=lot)
        for entry in book:
            told = [told_by_one(plan, entry, other, orders[other]) for other in outside]
            yield None if None in told else "told", with_parts(entry=entry)
        if len(broken.lot) > 0:
            inside = tuple(drawn.choice(orders_of(n, h)) if h in broken.lot else orders[h] for h in range(n))
            yield None, with_parts(orders=inside)

    def without_values(self, drawn, plan, broken, with_parts):
        """The exchange of other orders, and none at all, show just what is told in them."""
        n = len(broken.entry)
        for orders in ((),) * n, drawn_orders(drawn, n), drawn_orders(drawn, n):
            told = [told_by_one(plan, broken.entry, house, orders[house]) for house in range(n)]
            values = {value for value in told if value is not None}
            shown = len(values) > 1 if broken.what == "unlike" else not values <= set(broken.entry)
            yield None if shown else "told", with_parts(orders=orders)

    def test_what_is_refused_and_in_which_order(self):
        book, falls = Book(2, 2, inputs_of(2, 2)), Falls(2, [(0,), (1,)])
        clash = decide(book, falls, "cells")
        self.assertEqual(error_of(break_plan, {}, book, Falls(3, []), Clash("x", None, None)), ("UnlikeHouses",))
        for manner in ("x", None, 0, [], True):
            self.assertEqual(error_of(break_plan, {}, book, falls, Clash(manner, None, None)), ("BadManner", manner))
        for wrong in (Clash("cells", None, None), Clash("cells", (), clash.fails), Clash("cells", [5], clash.fails),
                      Clash("cells", clash.tree, None), Clash("cells", clash.tree, clash.fails[:1]),
                      Clash("cells", clash.tree, ((0, 0), (0, 9))), Clash("cells", clash.tree, ((0, 0), (0, 0))),
                      Clash("sure", clash.tree, ((0, 0), (0, 0))), Clash("cells", clash.tree[::-1], clash.fails)):
            fault = judge_clash(book, falls, wrong)
            if fault is not None:
                self.assertEqual(error_of(break_plan, {}, book, falls, wrong), ("WrongClash", *fault))
        self.assertEqual(error_of(break_plan, {}, book, falls, Clash("cells", [5], None)), ("WrongClash", "couple", 0))
        fails = ((1, 1), (1, 1))
        told = error_of(break_plan, {}, book, falls, Clash("sure", clash.tree, fails))
        self.assertEqual(told, ("WrongClash", "fits", 1))

    def test_nothing_that_is_passed_in_is_changed(self):
        for drawn, book, falls, clash in some_clashes(5, 88):
            plan = drawn_plan(drawn, book.n, book.m)
            kept = repr((plan, vars(book), vars(falls), vars(clash)))
            broken = break_plan(plan, book, falls, clash)
            plan_fault(plan, book, falls, clash.manner, broken)
            self.assertEqual(repr((plan, vars(book), vars(falls), vars(clash))), kept)

    def test_results(self):
        broken = PlanBreak("waits", [0, 1], [[1], []], [1])
        self.assertEqual(vars(broken), {"what": "waits", "entry": (0, 1), "orders": ((1,), ()), "lot": (1,)})
        self.assertEqual(broken, PlanBreak("waits", (0, 1), ((1,), ()), (1,)))
        parts = vars(broken)
        for name in parts:
            self.assertFalse(broken == PlanBreak(**{**parts, name: ()}))
        run = SplitRun([0, 1], [[1], []], [None, 0])
        self.assertEqual(vars(run), {"entry": (0, 1), "orders": ((1,), ()), "told": (None, 0)})
        self.assertEqual(run, SplitRun((0, 1), ((1,), ()), (None, 0)))
        for name in vars(run):
            self.assertFalse(run == SplitRun(**{**vars(run), name: ()}))
        for other in (None, broken, ((0, 1), ((1,), ()), (None, 0))):
            self.assertFalse(run == other)
        self.assertFalse(broken == run)


class TestSplitRuns(unittest.TestCase):
    def test_split_runs(self):
        drawn = random.Random(89)
        covered = 0
        for _ in range(400):
            n, m = drawn.randint(2, 5), drawn.randint(1, 3)
            falls = Falls(n, drawn.choice(some_families(n, 20, 89)))
            plan, inputs = drawn_plan(drawn, n, m), inputs_of(n, m)
            one, other = drawn.choice(inputs), drawn.choice(inputs)
            if falls.covering is None:
                self.assertEqual(error_of(split_run, plan, falls, one, other), ("NotCovering",))
                continue
            covered += 1
            first, second = falls.covering
            run = split_run(plan, falls, one, other)
            self.assertEqual(type(run), SplitRun)
            for house in range(n):
                mine = other if house in first and house not in second else one
                self.assertEqual(run.entry[house], mine[house])
                hears = ()
                for lot, source in ((first, one), (second, other)):
                    if house not in lot:
                        hears = tuple(k for k in range(n) if k not in lot and k != house)
                        self.assertEqual(run.told[house], told_by_one(plan, source, house, hears))
                self.assertEqual(run.orders[house], hears)
            self.assertEqual(run.told, exchange_values(plan, run.entry, run.orders))
        self.assertGreater(covered, 100)


if __name__ == "__main__":
    unittest.main()
