"""firmvalues.deciders: points 11.1 to 11.8, over all views of small books, by trying every input again."""

import itertools
import random
import time
import unittest

from firmvalues import deciders
from firmvalues.books import Book
from firmvalues.compiled import compiled_program, plan_program
from firmvalues.deciders import earliest_plan, judge_plan, sooner_run
from firmvalues.falls import Falls
from firmvalues.graph import told_values
from firmvalues.outcomes import Outcomes, decide
from firmvalues.verdicts import judge_program
from programs import SecondGraph, begin_by, right_programs, told_by, walk_by
from reckon import NO_SEQUENCES, all_families, error_of, inputs_of, lots_of, rows, some_families

NO_MANNERS = ("letters", "Sure", "", None, 0, True, [], b"sure")
NO_VALUES = (True, False, None, "0", -1, 9, (0,))


def views_of(n, m):
    return [view for view in rows([None, *range(m)], n) if view != (None,) * n]


def behind(book, view):
    return [entry for entry in book.inputs if all(value is None or value == entry[h] for h, value in enumerate(view))]


def without(entry, lot):
    return tuple(None if house in lot else value for house, value in enumerate(entry))


def unheard(view):
    return tuple(house for house, value in enumerate(view) if value is None)


def drawn_worlds(many, seed, houses=(2, 3, 4)):
    """Books with outcomes that hold inputs beyond the book, right for the family or drawn without care."""
    drawn = random.Random(seed)
    for n in houses:
        families = some_families(n, 20, seed)
        for m in (1, 2, 3) if n < 4 else (2,):
            inputs = inputs_of(n, m)
            for _ in range(many):
                book = Book(n, m, drawn.sample(inputs, drawn.randint(0, min(8, len(inputs)))))
                falls = Falls(n, drawn.choice(families))
                told = {entry: drawn.randrange(m) for entry in inputs}
                decided = decide(book, falls, drawn.choice(["sure", "cells"]))
                if isinstance(decided, Outcomes) and drawn.random() < 0.7:
                    told.update(zip(decided.inputs, decided.told))
                held = sorted(set(book.inputs) | set(drawn.sample(inputs, drawn.randint(0, len(inputs)))))
                yield drawn, book, falls, Outcomes(held, [told[entry] for entry in held])


def right_worlds(many, seed, houses=(2, 3), manners=("sure", "cells")):
    """Books with outcomes without a fault in a manner."""
    drawn = random.Random(seed)
    for n in houses:
        families = all_families(n) if n < 4 else some_families(n, 20, seed)
        for manner in manners:
            found = 0
            while found < many:
                m = drawn.choice([1, 2, 2, 3]) if n < 3 else 2
                inputs = inputs_of(n, m)
                book, falls = Book(n, m, drawn.sample(inputs, drawn.randint(0, min(8, len(inputs))))), None
                falls = Falls(n, drawn.choice(families))
                outcomes = decide(book, falls, manner, drawn.sample(range(m), m))
                if isinstance(outcomes, Outcomes):
                    found += 1
                    yield drawn, book, falls, outcomes, manner


class TestViews(unittest.TestCase):
    def test_every_view(self):
        seen = {"settled": 0, "two": 0, "none": 0, "open": 0}
        for drawn, book, falls, outcomes in drawn_worlds(8, 101):
            told = dict(zip(outcomes.inputs, outcomes.told))
            for view in [*views_of(book.n, book.m), (None,) * book.n]:
                inputs = behind(book, view)
                values = sorted({told[entry] for entry in inputs})
                self.assertEqual(deciders.settled_values(book, outcomes, view), tuple(values))
                first = values[0] if len(values) == 1 else None
                if values:
                    self.assertEqual(deciders.first_view(book, outcomes, view), first)
                    self.assertEqual(deciders.first_view(book, outcomes, list(view)), first)
                else:
                    self.assertEqual(error_of(deciders.first_view, book, outcomes, view), ("Outside", view))
                other = [entry for entry in inputs if told[entry] != told[inputs[0]]]
                couple = (inputs[0], other[0]) if other else None
                self.assertEqual(deciders.unlike_couple(book, outcomes, view), couple)
                is_open = len(inputs) > 0 and falls.lets(unheard(view))
                open_value = told[inputs[0]] if is_open else None
                self.assertEqual(deciders.open_view(book, falls, outcomes, view), open_value)
                self.assertEqual(deciders.told_at(book, falls, outcomes, "sure", view), first)
                self.assertEqual(deciders.told_at(book, falls, outcomes, "cells", view), open_value)
                seen["none" if not values else "two" if other else "settled"] += 1
                seen["open"] += is_open
        self.assertGreater(min(seen.values()), 100)

    def test_open_views_are_settled_by_right_outcomes(self):
        for drawn, book, falls, outcomes, manner in right_worlds(20, 102):
            for view in views_of(book.n, book.m):
                value = deciders.open_view(book, falls, outcomes, view)
                if value is not None:
                    self.assertEqual(deciders.settled_values(book, outcomes, view), (value,))
                    inputs = behind(book, view)
                    for one, other in itertools.combinations(inputs, 2):
                        self.assertTrue(falls.lets([h for h in range(book.n) if one[h] != other[h]]))

    def test_least_lots(self):
        unlike = 0
        for drawn, book, falls, outcomes in drawn_worlds(6, 103):
            told = dict(zip(outcomes.inputs, outcomes.told))
            for entry in book:
                good = [lot for lot in lots_of(book.n)
                        if len({told[other] for other in book if all(other[h] == entry[h] for h in lot)}) == 1]
                least = [lot for lot in good if not any(set(other) < set(lot) for other in good)]
                wanted = tuple(sorted(least, key=lambda lot: (len(lot), lot)))
                self.assertEqual(deciders.earliest_lots(book, outcomes, entry), wanted)
                self.assertEqual(deciders.earliest_lots(book, outcomes, list(entry)), wanted)
                if len({told[other] for other in book}) == 1:
                    self.assertEqual(wanted, ((),))
                unlike += len(wanted) > 1
            for wrong in (*NO_SEQUENCES, (), (0,), (0,) * 6, (True,) * book.n, (None,) * book.n, (book.m,) * book.n,
                          *[entry for entry in outcomes.inputs if entry not in book][:3]):
                self.assertEqual(error_of(deciders.earliest_lots, book, outcomes, wrong), ("NotInBook", wrong))
        self.assertGreater(unlike, 20)

    def test_the_example(self):
        falls, book = Falls.at_most(3, 1), Book(3, 2, [(0, 0, 0), (0, 1, 1), (1, 0, 1), (1, 1, 0), (1, 1, 1)])
        outcomes = Outcomes(book.inputs, (0, 1, 1, 1, 1))
        self.assertEqual(deciders.first_view(book, outcomes, (None, 1, None)), 1)
        self.assertIsNone(deciders.first_view(book, outcomes, (0, None, None)))
        self.assertEqual(sooner_run(book, outcomes, (0, None, None), 0), ((0, 1, 1), (0, 0)))
        self.assertEqual(deciders.first_view(book, outcomes, (0, None, 0)), 0)
        self.assertIsNone(deciders.told_at(book, falls, outcomes, "cells", (None, 1, None)))
        self.assertEqual(judge_plan(book, falls, outcomes, "sure", {(0, None, None): 0}),
                         ("wrong", (0, None, None), (0, 1, 1)))

    def test_manners_come_first(self):
        book, falls = Book(2, 2, []), Falls(3, [])
        for manner in NO_MANNERS:
            for call in (lambda: deciders.told_at(book, falls, None, manner, None),
                         lambda: earliest_plan(book, falls, None, manner),
                         lambda: judge_plan(book, falls, None, manner, None),
                         lambda: compiled_program(book, falls, None, manner)):
                self.assertEqual(error_of(call), ("BadManner", manner))

    def test_runs_that_decide_sooner(self):
        seen = {"settled": 0, "run": 0}
        for drawn, book, falls, outcomes in drawn_worlds(4, 104):
            told = dict(zip(outcomes.inputs, outcomes.told))
            identity = plan_program(book.n, book.m, {})
            for view in [*views_of(book.n, book.m), (None,) * book.n]:
                inputs = behind(book, view)
                for value in [*range(book.m), *NO_VALUES]:
                    if not inputs:
                        self.assertEqual(error_of(sooner_run, book, outcomes, view, value), ("Outside", view))
                        continue
                    others = [entry for entry in inputs if told[entry] != value or isinstance(value, bool)]
                    result = sooner_run(book, outcomes, view, value)
                    if not others:
                        self.assertIsNone(result)
                        seen["settled"] += 1
                        continue
                    entry, run = result
                    self.assertEqual(entry, others[0])
                    heard = tuple(house for house in range(book.n) if view[house] is not None)
                    self.assertEqual(run, heard + heard[:1])
                    ahead = walk_by(identity, begin_by(identity, entry), run[:-1])
                    self.assertEqual(tuple(seat[2] for seat in ahead), view)
                    if run:
                        self.assertEqual(ahead[run[-1]][0], "scan")
                    seen["run"] += 1
        self.assertGreater(min(seen.values()), 100)


def earliest_by(book, falls, outcomes, manner):
    plan = {}
    told = dict(zip(outcomes.inputs, outcomes.told))
    for view in views_of(book.n, book.m):
        inputs = behind(book, view)
        values = {told[entry] for entry in inputs}
        if inputs and (len(values) == 1 if manner == "sure" else falls.lets(unheard(view))):
            plan[view] = told[inputs[0]]
    return plan


def plan_fault_by(book, falls, outcomes, manner, plan):
    """The first fault of a plan, by the words of point 11.6."""
    told = dict(zip(outcomes.inputs, outcomes.told))
    views = [view for view in views_of(book.n, book.m) if view in plan]
    if manner == "sure":
        for view in views:
            for entry in behind(book, view):
                if told[entry] != plan[view]:
                    return "wrong", view, entry
    else:
        for view in views:
            if plan[view] not in view:
                return "unproposed", view, None
        for view, other in itertools.combinations(views, 2):
            within = [all(a is None or a == b for a, b in zip(*couple)) for couple in ((view, other), (other, view))]
            if any(within) and plan[view] != plan[other]:
                return "unlike", view, other
    for entry in book.inputs:
        for lot in sorted([lot for lot in lots_of(book.n) if falls.lets(lot)], key=lambda lot: (len(lot), lot)):
            view = without(entry, lot)
            if view not in plan:
                return "waits", entry, lot
            if plan[view] != told[entry]:
                return "wrong", view, entry
    return None


def spoilt_plan(drawn, book, plan):
    """The plan in any order, with some places changed, left out or added."""
    views = views_of(book.n, book.m)
    made = dict(plan)
    for _ in range(drawn.choice([0, 0, 1, 1, 2, 4])):
        view = drawn.choice(views)
        if view in made and drawn.random() < 0.5:
            del made[view]
        else:
            made[view] = drawn.randrange(book.m)
    if drawn.random() < 0.3:
        made[(None,) * book.n] = drawn.randrange(book.m)
    return dict(drawn.sample(list(made.items()), len(made)))


class TestPlans(unittest.TestCase):
    def test_the_earliest_plan(self):
        for drawn, book, falls, outcomes in drawn_worlds(10, 105):
            for manner in ("sure", "cells"):
                wanted = earliest_by(book, falls, outcomes, manner)
                plan = earliest_plan(book, falls, outcomes, manner)
                self.assertEqual((type(plan), list(plan.items())), (dict, list(wanted.items())))
                plan.clear()
                self.assertEqual(earliest_plan(book, falls, outcomes, manner), wanted)

    def test_first_faults(self):
        seen = {}
        for drawn, book, falls, outcomes in drawn_worlds(40, 106):
            for manner in ("sure", "cells"):
                plans = [spoilt_plan(drawn, book, earliest_by(book, falls, outcomes, manner)) for _ in range(3)]
                plans.append({view: drawn.randrange(book.m) for view in views_of(book.n, book.m)})
                plans.append({view: max(value for value in view if value is not None)
                              for view in views_of(book.n, book.m) if drawn.random() < 0.9})
                other = decide(book, falls, manner, list(reversed(range(book.m))))
                if isinstance(other, Outcomes):
                    plans.append(spoilt_plan(drawn, book, earliest_by(book, falls, other, manner)))
                for plan in plans:
                    kept = list(plan.items())
                    wanted = plan_fault_by(book, falls, outcomes, manner, plan)
                    self.assertEqual(judge_plan(book, falls, outcomes, manner, plan), wanted)
                    self.assertEqual(list(plan.items()), kept)
                    word = manner, wanted and wanted[0]
                    seen[word] = seen.get(word, 0) + 1
        for word in (("sure", None), ("sure", "wrong"), ("sure", "waits"), ("cells", None), ("cells", "wrong"),
                     ("cells", "unproposed"), ("cells", "unlike"), ("cells", "waits")):
            self.assertGreater(seen.get(word, 0), 20, seen)

    def test_what_means_nothing(self):
        """The view that hears nobody and the order of the entries."""
        for drawn, book, falls, outcomes, manner in right_worlds(10, 107):
            plan = earliest_plan(book, falls, outcomes, manner)
            for value in range(book.m):
                turned = {(None,) * book.n: value}
                for view in reversed(list(plan)):
                    turned[view] = plan[view]
                self.assertIsNone(judge_plan(book, falls, outcomes, manner, turned))
                self.assertEqual(plan_program(book.n, book.m, turned), plan_program(book.n, book.m, plan))

    def test_plans_of_right_outcomes(self):
        for drawn, book, falls, outcomes, manner in right_worlds(15, 108, houses=(2, 3, 4, 5)):
            plan = earliest_plan(book, falls, outcomes, manner)
            self.assertIsNone(judge_plan(book, falls, outcomes, manner, plan))
            if manner == "sure":
                for _ in range(5):
                    other = spoilt_plan(drawn, book, plan)
                    fault = judge_plan(book, falls, outcomes, manner, other)
                    if fault is None or fault[0] == "waits":
                        for view, value in other.items():
                            if view != (None,) * book.n and behind(book, view):
                                self.assertEqual(plan.get(view), value)

    def test_a_plan_is_right_exactly_if_its_program_is(self):
        seen = {True: 0, False: 0}
        for drawn, book, falls, outcomes, manner in right_worlds(20, 109):
            for _ in range(4):
                plan = spoilt_plan(drawn, book, earliest_plan(book, falls, outcomes, manner))
                program = plan_program(book.n, book.m, plan)
                right = judge_program(program, book, falls, manner) is None
                right = right and all(told_values(program, entry) == (outcomes.value_of(entry),) for entry in book)
                self.assertEqual(judge_plan(book, falls, outcomes, manner, plan) is None, right)
                seen[right] += 1
        self.assertGreater(min(seen.values()), 30)

    def test_no_right_program_decides_sooner(self):
        """Whenever a house decides, the view of the values of all that have written is settled."""
        drawn = random.Random(110)
        checked = 0
        for n in (2, 3):
            for lots in all_families(n):
                falls = Falls(n, lots)
                for _ in range(3):
                    program, book, outcomes, manner = next(right_programs(drawn, n, 2, falls))
                    for entry in book:
                        graph = SecondGraph(program, begin_by(program, entry))
                        for standing in graph.order:
                            for house, other in graph.behind[standing].items():
                                if len(told_by(other)) and other[house][0] == "done":
                                    written = [h for h in range(n) if standing[h][2] is not None]
                                    view = tuple(entry[h] if h in written else None for h in range(n))
                                    value = deciders.first_view(book, outcomes, view)
                                    self.assertEqual(value, outcomes.value_of(entry))
                                    checked += 1
        self.assertGreater(checked, 500)

    def test_little_time_at_great_books(self):
        begun = time.monotonic()
        falls, inputs = Falls.at_most(5, 1), inputs_of(5, 3)
        book = Book(5, 3, inputs[:121] + inputs[122:])
        for manner in ("sure", "cells"):
            outcomes = Outcomes(book.inputs, [max(entry) for entry in book.inputs])
            plan = earliest_plan(book, falls, outcomes, manner)
            self.assertEqual(plan, earliest_by(book, falls, outcomes, manner))
            self.assertIn(judge_plan(book, falls, outcomes, manner, plan)[0], ("waits", "unlike", "wrong", "unproposed"))
        book = Book(4, 4, inputs_of(4, 4))
        outcomes = decide(book, Falls(4, [(1, 2, 3)]), "cells")
        plan = earliest_plan(book, Falls(4, [(1, 2, 3)]), outcomes, "cells")
        self.assertIsNone(judge_plan(book, Falls(4, [(1, 2, 3)]), outcomes, "cells", plan))
        self.assertLess(time.monotonic() - begun, 20)


if __name__ == "__main__":
    unittest.main()
