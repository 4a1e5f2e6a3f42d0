"""firmvalues.cellruns: points 12.4 to 12.9, against a second run that keeps all reads since the last wake."""

import itertools
import random
import time
import unittest

from firmvalues.books import Book
from firmvalues.cellruns import CellRun, cell_run_of, finished_run, twin_of
from firmvalues.falls import Falls
from firmvalues.outcomes import Outcomes, decide
from reckon import NO_SEQUENCES, all_families, error_of, inputs_of, some_families
from test_deciders import behind, right_worlds, unheard

NO_HOUSES = (True, False, None, -1, "0", 9, 0.0, (0,), [0])
WORDS = ("step", "fall", "wake")


class SecondRun:
    """What the words of points 12.4 to 12.6 say, deed by deed."""

    def __init__(self, book, falls, outcomes, manner, entry):
        self.book, self.falls, self.manner, self.entry = book, falls, manner, tuple(entry)
        self.told = dict(zip(outcomes.inputs, outcomes.told))
        self.n = book.n
        self.written, self.decisions = [None] * self.n, [None] * self.n
        self.chosen, self.grounds = [None] * self.n, [None] * self.n
        self.reads = [[] for _ in range(self.n)]
        self.fallen, self.course = set(), []
        self.held = [tuple(self.written)]

    def value_at(self, view):
        inputs = behind(self.book, view)
        if self.manner == "sure":
            values = {self.told[entry] for entry in inputs}
            return values.pop() if len(values) == 1 else None
        return self.told[inputs[0]] if inputs and self.falls.lets(unheard(view)) else None

    def next_of(self, house):
        if house in self.fallen:
            return "fallen"
        if self.written[house] is None:
            return "write"
        if self.decisions[house] is not None:
            return "done"
        return "read" if self.chosen[house] is None else "tell"

    def heard(self, house):
        view = [None] * self.n
        view[house] = self.written[house]
        for other, value in self.reads[house]:
            view[other] = value if value is not None else view[other]
        return tuple(view)

    def waiting_for(self, house):
        return () if self.next_of(house) in ("tell", "done") else unheard(self.heard(house))

    def refused(self, word, house):
        if word not in WORDS:
            return "word"
        if isinstance(house, bool) or not isinstance(house, int) or not 0 <= house < self.n:
            return "house"
        if word in ("step", "fall") and house in self.fallen:
            return "fallen"
        if word == "wake" and house not in self.fallen:
            return "awake"
        return "done" if word == "step" and self.next_of(house) == "done" else None

    def decide(self, house, value, ground):
        if value is not None:
            self.chosen[house], self.grounds[house] = value, ground

    def do(self, word, house):
        if word == "fall":
            self.fallen.add(house)
        elif word == "wake":
            self.fallen.remove(house)
            self.reads[house] = []
            if self.decisions[house] is None:
                self.chosen[house] = self.grounds[house] = None
                if self.manner == "sure" and self.written[house] is not None:
                    self.decide(house, self.value_at(self.heard(house)), ("view", self.heard(house)))
        elif self.next_of(house) == "write":
            self.written[house] = self.entry[house]
            if self.manner == "sure":
                self.decide(house, self.value_at(self.heard(house)), ("view", self.heard(house)))
        elif self.next_of(house) == "tell":
            self.decisions[house] = self.chosen[house]
        else:
            self.read(house)
        self.course.append((word, house))
        self.held.append(tuple(self.written))

    def read(self, house):
        others = [other for other in range(self.n) if other != house]
        reads = self.reads[house]
        other = others[len(reads) % len(others)]
        reads.append((other, self.written[other]))
        if self.decisions[other] is not None:
            self.decide(house, self.decisions[other], ("told", other))
        elif self.manner == "sure":
            self.decide(house, self.value_at(self.heard(house)), ("view", self.heard(house)))
        elif len(reads) % len(others) == 0 and len(reads) >= 2 * len(others):
            last, ahead = reads[-len(others):], reads[-2 * len(others):-len(others)]
            if last == ahead:
                view = [None] * self.n
                view[house] = self.entry[house]
                for at, value in last:
                    view[at] = value
                self.decide(house, self.value_at(tuple(view)), ("view", tuple(view)))

    def all_told(self):
        """All that a run tells, in the form of `told_by_run`."""
        houses = range(self.n)
        grounds = [self.grounds[house] if self.decisions[house] is not None else None for house in houses]
        return (tuple(self.written), tuple(self.decisions), tuple(grounds), tuple(sorted(self.fallen)),
                tuple(self.course), [self.next_of(house) for house in houses], [self.heard(house) for house in houses],
                [self.waiting_for(house) for house in houses])


def told_by_run(run):
    houses = range(run.n)
    return (run.written, run.decisions, run.grounds, run.fallen, run.course, [run.next_of(house) for house in houses],
            [run.heard_view(house) for house in houses], [run.waiting_for(house) for house in houses])


def deeds_now(second):
    return [(word, house) for word in WORDS for house in range(second.n) if second.refused(word, house) is None]


def drawn_course(drawn, second, most, falling=0.1):
    """Does drawn deeds until there is none or enough; mostly steps."""
    while len(second.course) < most:
        deeds = deeds_now(second)
        steps = [deed for deed in deeds if deed[0] == "step"]
        if not steps and drawn.random() < 0.5:
            return
        second.do(*drawn.choice(steps if steps and drawn.random() > falling else deeds))


class TestDeeds(unittest.TestCase):
    def test_all_orders_of_two_houses(self):
        seen = {}
        for drawn, book, falls, outcomes, manner in right_worlds(6, 141, houses=(2,)):
            if len(book) == 0:
                continue
            for entry in {book.inputs[0], drawn.choice(inputs_of(2, book.m))}:
                world = (book, falls, outcomes, manner, entry)
                self.walk(world, CellRun(*world), (), 6, seen, WORDS)
                self.walk(world, CellRun(*world), (), 9, seen, ("step",))
        for word in ("write", "tell", "read", "done", "fallen"):
            self.assertGreater(seen[word], 100, seen)

    def walk(self, world, run, course, most, seen, words):
        second = SecondRun(*world)
        for deed in course:
            second.do(*deed)
        self.assertEqual(told_by_run(run), second.all_told())
        for house in (0, 1):
            seen[run.next_of(house)] = seen.get(run.next_of(house), 0) + 1
        if len(course) == most:
            return
        kept = told_by_run(run)
        for deed in deeds_now(second):
            if deed[0] in words:
                twin = twin_of(run)
                twin.do_deed(deed)
                self.walk(world, twin, course + (deed,), most, seen, words)
        self.assertEqual(told_by_run(run), kept)

    def test_drawn_orders_of_more_houses(self):
        grounds = {}
        for drawn, book, falls, outcomes, manner in right_worlds(40, 142, houses=(3, 4)):
            known = drawn.random() < 0.8 and len(book) > 0
            entry = drawn.choice(book.inputs if known else inputs_of(book.n, book.m))
            run, second = CellRun(book, falls, outcomes, manner, list(entry)), SecondRun(book, falls, outcomes, manner, entry)
            shadow = SecondRun(book, falls, outcomes, manner, entry)
            drawn_course(drawn, second, drawn.choice([10, 40, 80]), drawn.choice([0, 0.1, 0.3]))
            for word, house in second.course:
                calls = [lambda: run.do_deed((word, house)), lambda: run.do_deed([word, house]),
                         lambda: getattr(run, word)(house)]
                self.assertIsNone(drawn.choice(calls)())
                shadow.do(word, house)
                self.assertEqual(told_by_run(run), shadow.all_told())
            self.assertEqual(told_by_run(cell_run_of(book, falls, outcomes, manner, entry, second.course)), told_by_run(run))
            for ground in run.grounds:
                key = manner, ground and ground[0]
                grounds[key] = grounds.get(key, 0) + 1
        self.assertEqual(len(grounds), 6)
        self.assertGreater(min(grounds.values()), 8, grounds)

    def test_refused_deeds_change_nothing(self):
        seen = {}
        for drawn, book, falls, outcomes, manner in right_worlds(12, 143, houses=(2, 3)):
            entry = drawn.choice(book.inputs) if len(book) else (0,) * book.n
            run, second = CellRun(book, falls, outcomes, manner, entry), SecondRun(book, falls, outcomes, manner, entry)
            while len(second.course) < 25 and deeds_now(second):
                kept = told_by_run(run)
                for word, house in itertools.product((*WORDS, "read", "", None, 0, "Step", []), (*range(book.n), *NO_HOUSES)):
                    what = second.refused(word, house)
                    if what is not None:
                        self.assertEqual(error_of(run.do_deed, (word, house)), ("NoDeed", what, house))
                        if word in WORDS:
                            self.assertEqual(error_of(getattr(run, word), house), ("NoDeed", what, house))
                        seen[what] = seen.get(what, 0) + 1
                self.assertEqual(told_by_run(run), kept)
                deed = drawn.choice(deeds_now(second))
                run.do_deed(deed)
                second.do(*deed)
            self.assertEqual(told_by_run(run), second.all_told())
        self.assertEqual(sorted(seen), ["awake", "done", "fallen", "house", "word"])

    def test_a_refused_deed_in_a_course(self):
        book, falls = Book(2, 2, [(0, 1)]), Falls(2, [])
        world = (book, falls, decide(book, falls, "cells"), "cells", (0, 1))
        for course, error in (([("step", 0), ("wake", 0), None], ("NoDeed", "awake", 0)),
                              ([("fall", 1), ("step", 1)], ("NoDeed", "fallen", 1)),
                              ([["step", 2]], ("NoDeed", "house", 2)), ([("go", 2)], ("NoDeed", "word", 2))):
            self.assertEqual(error_of(cell_run_of, *world, course), error)
        run = cell_run_of(*world, [["step", 0], ("fall", 1)])
        self.assertEqual((run.course, run.fallen, run.written), ((("step", 0), ("fall", 1)), (1,), (0, None)))

    def test_new_runs(self):
        for drawn, book, falls, outcomes, manner in right_worlds(5, 144):
            entry = list(inputs_of(book.n, book.m)[-1])
            run = CellRun(book, falls, outcomes, manner, entry)
            self.assertEqual((run.n, run.entry, run.manner, run.course, run.fallen), (book.n, tuple(entry), manner, (), ()))
            self.assertTrue(run.book is book and run.falls is falls and run.outcomes is outcomes)
            nobody = (None,) * book.n
            self.assertEqual((run.written, run.decisions, run.grounds), (nobody,) * 3)
            entry[0] = 9
            run.step(0)
            self.assertEqual(run.written[0], run.entry[0])

    def test_what_is_refused_and_in_which_order(self):
        book, falls = Book(2, 2, [(0, 1)]), Falls(2, [])
        outcomes = decide(book, falls, "cells")
        calls = (CellRun, lambda *things: cell_run_of(*things, None))
        for call in calls:
            for manner in ("letters", "Sure", "", None, 0, True, []):
                self.assertEqual(error_of(call, book, falls, outcomes, manner, None), ("BadManner", manner))
            for manner in ("sure", "cells"):
                for entry in (*NO_SEQUENCES, (), (0,), (0, 0, 0)):
                    self.assertEqual(error_of(call, book, falls, outcomes, manner, entry), ("BadInput", "length", 0))
                for wrong in (True, None, -1, 2, "0"):
                    told = error_of(call, book, falls, outcomes, manner, (0, wrong))
                    self.assertEqual(told, ("BadInput", "value", 1))

    def test_by_hand(self):
        falls, book = Falls.at_most(3, 1), Book(3, 2, [(0, 0, 0), (0, 1, 1), (1, 0, 1), (1, 1, 0), (1, 1, 1)])
        outcomes = Outcomes(book.inputs, (0, 1, 1, 1, 1))
        run = CellRun(book, falls, outcomes, "sure", (0, 1, 1))
        run.step(1)
        self.assertEqual((run.next_of(1), run.grounds[1], run.waiting_for(1)), ("tell", None, ()))
        run.step(0)
        self.assertEqual((run.next_of(0), run.waiting_for(0), run.waiting_for(2)), ("read", (1, 2), (0, 1, 2)))
        run.step(1)
        self.assertEqual((run.decisions, run.grounds), ((None, 1, None), (None, ("view", (None, 1, None)), None)))
        run.step(0)
        run.step(0)
        self.assertEqual((run.decisions[0], run.grounds[0], run.heard_view(0)), (1, ("told", 1), (0, 1, None)))
        run.fall(0)
        self.assertEqual((run.next_of(0), run.waiting_for(0), run.fallen), ("fallen", (2,), (0,)))
        run.wake(0)
        self.assertEqual((run.next_of(0), run.heard_view(0), run.grounds[0]), ("done", (0, None, None), ("told", 1)))
        self.assertEqual(error_of(run.step, 0), ("NoDeed", "done", 0))

    def test_an_unwritten_decision_is_forgotten(self):
        falls, book = Falls.at_most(2, 1), Book(2, 2, [(0, 0), (0, 1)])
        outcomes = Outcomes(book.inputs, (0, 0))
        run = cell_run_of(book, falls, outcomes, "cells", (0, 0), [("step", 0)] * 3)
        self.assertEqual(run.next_of(0), "tell")
        run.fall(0)
        run.wake(0)
        self.assertEqual((run.next_of(0), run.waiting_for(0)), ("read", (1,)))
        run = cell_run_of(book, falls, outcomes, "sure", (0, 0), [("step", 0), ("fall", 0), ("wake", 0)])
        self.assertEqual(run.next_of(0), "tell")
        run = cell_run_of(book, falls, outcomes, "sure", (0, 0), [("fall", 0), ("wake", 0)])
        self.assertEqual(run.next_of(0), "write")


class TestRunsFromRuns(unittest.TestCase):
    def worlds(self, many, seed, houses=(2, 3, 4)):
        for drawn, book, falls, outcomes, manner in right_worlds(many, seed, houses=houses):
            known = drawn.random() < 0.7 and len(book) > 0
            entry = drawn.choice(book.inputs if known else inputs_of(book.n, book.m))
            second = SecondRun(book, falls, outcomes, manner, entry)
            drawn_course(drawn, second, drawn.randint(0, 30), drawn.choice([0, 0.1, 0.3]))
            yield drawn, second, cell_run_of(book, falls, outcomes, manner, entry, second.course)

    def test_twins_go_on_apart(self):
        for drawn, second, run in self.worlds(30, 145):
            twin = twin_of(run)
            self.assertEqual((type(twin), told_by_run(twin)), (CellRun, told_by_run(run)))
            self.assertEqual((twin.book, twin.falls, twin.outcomes, twin.manner, twin.entry),
                             (run.book, run.falls, run.outcomes, run.manner, run.entry))
            kept = told_by_run(run)
            other = SecondRun(run.book, run.falls, run.outcomes, run.manner, run.entry)
            for deed in second.course:
                other.do(*deed)
            drawn_course(drawn, other, len(second.course) + 12, 0.2)
            for deed in other.course[len(second.course):]:
                twin.do_deed(deed)
            self.assertEqual(told_by_run(twin), other.all_told())
            self.assertEqual(told_by_run(run), kept)
            drawn_course(drawn, second, len(run.course) + 12, 0.2)
            for deed in second.course[len(run.course):]:
                run.do_deed(deed)
            self.assertEqual(told_by_run(run), second.all_told())
            self.assertEqual(told_by_run(twin), other.all_told())

    def test_finished_runs(self):
        for drawn, second, run in self.worlds(30, 146):
            kept = told_by_run(run)
            told = finished_run(run)
            self.assertEqual(told_by_run(run), kept)
            for _ in range(4 * run.n):
                for house in range(run.n):
                    if second.next_of(house) not in ("fallen", "done"):
                        second.do("step", house)
            self.assertEqual(told_by_run(told), second.all_told())


class TestWhatHolds(unittest.TestCase):
    def check_safe(self, run, held, outcomes, known):
        """Beyond the family too: one value, proposed, the outcome of the input; each view of grounds bears it out."""
        told = {value for value in run.decisions if value is not None}
        self.assertLessEqual(len(told), 1)
        self.assertLessEqual(told, set(run.entry))
        if told and known:
            self.assertEqual(told, {outcomes.value_of(run.entry)})
        for ground in run.grounds:
            if ground is not None and ground[0] == "view":
                if run.manner == "sure":
                    values = {outcomes.value_of(entry) for entry in behind(run.book, ground[1])}
                    self.assertEqual(values, told)
                else:
                    self.assertIn(ground[1], held)
        return len(told)

    def test_what_is_told(self):
        told = {"sure": 0, "cells": 0, "beyond": 0}
        for drawn, book, falls, outcomes, manner in right_worlds(60, 147, houses=(2, 3, 4, 5)):
            if manner == "sure" and len(book) == 0:
                continue
            known = manner == "sure" or (drawn.random() < 0.6 and len(book) > 0)
            entry = drawn.choice(book.inputs if known else inputs_of(book.n, book.m))
            second = SecondRun(book, falls, outcomes, manner, entry)
            drawn_course(drawn, second, 80, drawn.choice([0, 0.05, 0.3]))
            run = cell_run_of(book, falls, outcomes, manner, entry, second.course)
            told[manner] += self.check_safe(run, second.held, outcomes, entry in book)
            told["beyond"] += not falls.lets(run.fallen)
            finished = finished_run(run)
            held = second.held + [finished.written] + self.held_in(run, finished)
            self.check_safe(finished, held, outcomes, entry in book)
        self.assertGreater(min(told.values()), 30, told)

    def held_in(self, run, finished):
        second = SecondRun(run.book, run.falls, run.outcomes, run.manner, run.entry)
        for deed in finished.course:
            second.do(*deed)
        return second.held

    def test_how_soon_they_are_done(self):
        """At most 3 n - 2 further steps, once all that stand have written and the others are a lot that is let."""
        most = {}
        for drawn, book, falls, outcomes, manner in right_worlds(80, 148, houses=(2, 3, 4)):
            if len(book) == 0:
                continue
            n, entry = book.n, drawn.choice(book.inputs)
            second = SecondRun(book, falls, outcomes, manner, entry)
            drawn_course(drawn, second, drawn.randint(0, 40), drawn.choice([0, 0.1, 0.2]))
            lot = drawn.choice(list(falls.each_lot()))
            for house in range(n):
                if house in lot and house not in second.fallen and drawn.random() < 0.6:
                    second.do("fall", house)
                while house not in second.fallen and second.next_of(house) == "write":
                    second.do("step", house)
            unwritten = tuple(house for house in range(n) if second.written[house] is None)
            if not falls.lets(unwritten):
                continue
            run = cell_run_of(book, falls, outcomes, manner, entry, second.course)
            steps = [0] * n
            while True:
                free = [house for house in range(n) if run.next_of(house) not in ("fallen", "done")]
                if not free:
                    break
                house = drawn.choice(free if drawn.random() < 0.5 else free[:1])
                run.step(house)
                steps[house] += 1
                self.assertLessEqual(steps[house], 3 * n - 2)
            most[n] = max(most.get(n, 0), *steps)
        self.assertEqual(sorted(most), [2, 3, 4])

    def test_finished_runs_tell_all_or_nothing(self):
        seen = {True: 0, False: 0}
        for drawn, book, falls, outcomes, manner in right_worlds(150, 149, houses=(2, 3, 4)):
            if len(book) == 0:
                continue
            entry = drawn.choice(book.inputs)
            second = SecondRun(book, falls, outcomes, manner, entry)
            drawn_course(drawn, second, drawn.randint(0, 30), drawn.choice([0.2, 0.5]))
            run = cell_run_of(book, falls, outcomes, manner, entry, second.course)
            finished = finished_run(run)
            standing = [house for house in range(book.n) if house not in run.fallen]
            if not standing:
                self.assertEqual(told_by_run(finished), told_by_run(run))
                continue
            told = {finished.decisions[house] is not None for house in standing}
            self.assertEqual(len(told), 1)
            view = tuple(entry[house] if house in standing or run.written[house] is not None else None
                         for house in range(book.n))
            if manner == "sure":
                enough = len({outcomes.value_of(other) for other in behind(book, view)}) == 1
            else:
                enough = falls.lets(unheard(view))
            wanted = enough or any(value is not None for value in run.decisions)
            self.assertEqual(told, {wanted})
            seen[wanted] += 1
        self.assertGreater(min(seen.values()), 20, seen)

    def test_every_family_and_long_runs(self):
        begun = time.monotonic()
        for n in (2, 3):
            for lots in all_families(n):
                falls, book = Falls(n, lots), Book(n, 2, inputs_of(n, 2)[1:3])
                outcomes = decide(book, falls, "sure")
                if isinstance(outcomes, Outcomes):
                    run = cell_run_of(book, falls, outcomes, "sure", book.inputs[0], [("step", 0)] * 1)
                    self.assertEqual(finished_run(run).decisions, (outcomes.told[0],) * n)
        falls = Falls(5, some_families(5, 8, 1)[1])
        book = Book(5, 3, inputs_of(5, 3)[:100])
        outcomes = Outcomes(book.inputs, [0] * 100)
        run = CellRun(book, falls, outcomes, "cells", (2, 2, 2, 2, 2))
        for _ in range(600):
            for house in (0, 1, 2):
                run.step(house)
        self.assertEqual((run.decisions, len(run.course)), ((None,) * 5, 1800))
        self.assertLess(time.monotonic() - begun, 20)


if __name__ == "__main__":
    unittest.main()
