"""firmvalues.verdicts: points 8.4 to 8.8, against all runs, and each fault by walking it."""

import random
import time
import unittest

from firmvalues import verdicts
from firmvalues.books import Book
from firmvalues.falls import Falls, falls_within
from firmvalues.graph import reach, told_values
from firmvalues.judging import judge_outcomes
from firmvalues.standings import last_standing
from firmvalues.tables import HouseTable
from firmvalues.verdicts import Endless, Unlike, Unproposed, fault_error, judge_program
from programs import (SecondGraph, begin_by, counters, drawn_program, is_stuck_by, long_way, movers, right_programs, shows_by,
                      some_programs, told_by, unsafe_by, walk_by, KINDS)
from reckon import NO_SEQUENCES, all_families, error_of, inputs_of


def drawn_book(drawn, n, m, most=5):
    inputs = inputs_of(n, m)
    return Book(n, m, drawn.sample(inputs, drawn.randint(0, min(most, len(inputs)))))


def judged_by(graphs, book, falls, manner):
    """The unsafe fault of the first input that has a fault, or this input alone if it is stuck; None if all is right."""
    for entry in (book.inputs if manner == "sure" else graphs):
        fault = unsafe_by(graphs[entry], entry)
        if fault is not None:
            return fault
        if entry in book and is_stuck_by(graphs[entry], falls):
            return entry
    return None


def second_graphs(program):
    return {entry: SecondGraph(program, begin_by(program, entry)) for entry in inputs_of(len(program), program[0].m)}


class TestVerdict(unittest.TestCase):
    def test_each_input_alone(self):
        drawn = random.Random(31)
        found = {"Unlike": 0, "Unproposed": 0, "Endless": 0, "NoneType": 0}
        for program in some_programs(9, 32):
            n = len(program)
            for entry in drawn.sample(inputs_of(n, program[0].m), 2 if n == 2 and program[0].m > 1 else 1):
                graph, second = reach(program, entry), SecondGraph(program, begin_by(program, entry))
                fault = verdicts.unsafe_at(graph, entry)
                self.assertEqual(fault, unsafe_by(second, entry))
                found[type(fault).__name__] += 1
                families = all_families(n)
                for lots in drawn.sample(families, min(5, len(families))):
                    falls = Falls(n, lots)
                    fault = verdicts.endless_at(graph, entry, falls)
                    self.assertEqual(fault is not None, is_stuck_by(second, falls))
                    if fault is not None:
                        self.assertEqual((type(fault), fault.entry), (Endless, entry))
                        self.assertTrue(shows_by(program, falls, fault))
                    found[type(fault).__name__] += 1
        self.assertGreater(min(found.values()), 10)

    def test_whole_programs(self):
        drawn = random.Random(33)
        found = {"Unlike": 0, "Unproposed": 0, "Endless": 0, "NoneType": 0}
        for program in some_programs(6, 34, values=(1, 2)):
            n, m = len(program), program[0].m
            graphs = second_graphs(program)
            families = all_families(n)
            plain = [(), tuple((house,) for house in range(n)), ((0,),)]
            for lots in plain + (families if n == 2 else drawn.sample(families, 3)):
                book, falls = drawn_book(drawn, n, m), Falls(n, lots)
                for manner in ("sure", "cells"):
                    wanted = judged_by(graphs, book, falls, manner)
                    told = judge_program(drawn.choice([list, tuple])(program), book, falls, manner)
                    if isinstance(told, Endless):
                        self.assertEqual(told.entry, wanted)
                        self.assertTrue(shows_by(program, falls, told))
                    else:
                        self.assertEqual(told, wanted)
                    if told is not None:
                        self.assertIsNone(fault_error(program, book, falls, manner, told))
                    found[type(told).__name__] += 1
        self.assertGreater(min(found.values()), 20)

    def test_right_programs(self):
        drawn = random.Random(35)
        for n, m in ((2, 2), (2, 3), (3, 2), (3, 2), (4, 2)):
            for lots in (all_families(n) if n < 4 else [((0,), (1,), (2,), (3,)), ((0, 1), (2, 3))]):
                falls = Falls(n, lots)
                program, book, outcomes, manner = next(right_programs(drawn, n, m, falls))
                self.assertIsNone(judge_program(program, book, falls, manner))
                for entry in book:
                    self.assertEqual(told_values(program, entry), (outcomes.value_of(entry),))

    def test_what_holds_for_right_programs(self):
        drawn = random.Random(36)
        right = 0
        for n in (2, 3):
            families = [Falls(n, lots) for lots in all_families(n)]
            for falls in families * (4 if n == 2 else 1):
                program, book, _, manner = next(right_programs(drawn, n, 2, falls))
                right += self.check_right(drawn, families, program, book, falls, manner)
                for kind in KINDS:
                    manner = drawn.choice(["sure", "cells"])
                    program, book = drawn_program(drawn, n, 2, kind), drawn_book(drawn, n, 2)
                    right += self.check_right(drawn, families, program, book, falls, manner)
        self.assertGreater(right, 60)

    def check_right(self, drawn, families, program, book, falls, manner):
        """What point 8.8 says of a program, if it is right; True if it is."""
        if judge_program(program, book, falls, manner) is not None:
            return False
        self.assertIsNone(judge_program(program, book, falls, "sure"))
        fewer = Book(book.n, book.m, drawn.sample(book.inputs, drawn.randint(0, len(book))))
        for other in families:
            if falls_within(other, falls):
                self.assertIsNone(judge_program(program, book, other, manner))
                self.assertIsNone(judge_program(program, fewer, other, manner))
        if falls.sure == ():
            told = [told_values(program, entry) for entry in book]
            self.assertTrue(all(len(values) == 1 for values in told))
            self.assertIsNone(judge_outcomes(book, falls, manner, [values[0] for values in told]))
        return True

    def test_unsafe_runs_do_not_depend_on_the_family(self):
        drawn = random.Random(37)
        for program in some_programs(3, 38, values=(2,)):
            n = len(program)
            book = drawn_book(drawn, n, 2, 8)
            for manner in ("sure", "cells"):
                first = None
                for entry in (book.inputs if manner == "sure" else inputs_of(n, 2)):
                    first = first or unsafe_by(SecondGraph(program, begin_by(program, entry)), entry)
                for lots in all_families(n):
                    told = judge_program(program, book, Falls(n, lots), manner)
                    if isinstance(told, (Unlike, Unproposed)):
                        self.assertEqual(told, first)
                    elif told is None:
                        self.assertIsNone(first)

    def test_no_books_and_no_falls(self):
        waits = (HouseTable(2, 1, [0, 0]),) * 2
        none, both = Falls(2, []), Falls(2, [(0,), (1,)])
        for falls in (none, both):
            for manner in ("sure", "cells"):
                self.assertIsNone(judge_program(waits, Book(2, 2, []), falls, manner))
                told = judge_program(waits, Book(2, 2, [(1, 0)]), falls, manner)
                self.assertEqual((type(told), told.entry), (Endless, (1, 0)))
        bold = (HouseTable(2, 2, [0, 1], [(0, (None,), ("done", 1)), (1, (None,), ("done", 0))]),) * 2
        self.assertIsNone(judge_program(bold, Book(2, 2, []), both, "sure"))
        self.assertEqual(judge_program(bold, Book(2, 2, []), both, "cells"), Unproposed((0, 0), (0, 0)))
        self.assertEqual(judge_program(bold, Book(2, 2, [(0, 1)]), both, "sure").entry, (0, 1))

    def test_twenty_thousand_standings(self):
        begun = time.monotonic()
        told = judge_program(counters(3, 13), Book(3, 1, [(0, 0, 0)]), Falls.at_most(3, 1), "cells")
        self.assertEqual(type(told), Endless)
        self.assertTrue(shows_by(counters(3, 13), Falls.at_most(3, 1), told))
        self.assertIsNone(fault_error(counters(3, 13), Book(3, 1, [(0, 0, 0)]), Falls.at_most(3, 1), "cells", told))
        self.assertLess(time.monotonic() - begun, 15)


    def test_paths_of_thousands_of_steps(self):
        program, book, falls = long_way(), Book(2, 1, [(0, 0)]), Falls.at_most(2, 1)
        for family in (falls, Falls(2, [])):
            told = judge_program(program, book, family, "sure")
            self.assertEqual(type(told), Endless)
            self.assertTrue(shows_by(program, family, told))
        graph = reach(program, (0, 0))
        ends = [number for number in range(len(graph.standings)) if told_by(graph.standings[number])]
        run = graph.run_to(ends[0])
        self.assertGreater(len(run), 3000)
        bold = Book(2, 1, [(0, 0)])
        self.assertEqual(fault_error(program, bold, falls, "sure", Unlike((0, 0), run)), "told")
        self.assertEqual(fault_error(program, bold, falls, "sure", Unproposed((0, 0), run)), "told")
        self.assertEqual(fault_error(program, bold, falls, "sure", Unlike((0, 0), run + (1,))), "run")


class TestRefused(unittest.TestCase):
    def test_errors_in_their_order(self):
        table = HouseTable(2, 1, [0, 0])
        book, falls = Book(2, 2, [(0, 1)]), Falls(2, [])
        for call in (judge_program, lambda *things: fault_error(*things, None)):
            for program in (*NO_SEQUENCES, (), [table], [table] * 6):
                self.assertEqual(error_of(call, program, Book(3, 1, []), falls, None), ("BadProgram", 0, "many"))
            self.assertEqual(error_of(call, [table, 5], Book(3, 1, []), falls, None), ("BadProgram", 1, "table"))
            for other_book, other_falls in ((Book(3, 1, []), Falls(3, [])), (Book(3, 2, []), falls),
                                            (book, Falls(3, [])), (Book(2, 1, []), Falls(4, []))):
                self.assertEqual(error_of(call, [table, table], other_book, other_falls, None), ("UnlikeHouses",))
            for m in (1, 3, 4):
                self.assertEqual(error_of(call, [table, table], Book(2, m, []), falls, None), ("UnlikeValues",))
            for manner in ("letters", "Sure", "", None, 0, True, [], b"sure"):
                self.assertEqual(error_of(call, [table, table], book, falls, manner), ("BadManner", manner))

    def test_too_many_standings_behind_a_fault(self):
        waits = HouseTable(2, 1, [0, 0])
        many = len(reach((waits, waits), (0, 0)).standings)
        for book, falls in ((Book(2, 2, [(0, 1)]), Falls(2, [])), (Book(2, 2, []), Falls(2, []))):
            for most in (1, many - 1):
                told = error_of(judge_program, [waits, waits], book, falls, "cells", most=most)
                self.assertEqual(told, ("TooMany", most))
        self.assertIsNone(judge_program([waits, waits], Book(2, 2, []), Falls(2, []), "sure", most=1))
        self.assertIsNone(judge_program([waits, waits], Book(2, 2, []), Falls(2, []), "cells", most=many))
        self.assertRaises(TypeError, judge_program, [waits, waits], Book(2, 2, []), Falls(2, []), "sure", 1)
        # The value 1 needs more standings than the value 0, from which nobody ends.
        longer = HouseTable(2, 3, [0, 1], [(1, (cell,), 2) for cell in (None, 0, 1, 2)])
        book = Book(2, 2, [(0, 0), (1, 1)])
        few = len(reach((longer, longer), (0, 0)).standings)
        self.assertGreater(len(reach((longer, longer), (1, 1)).standings), few)
        told = judge_program((longer, longer), book, Falls(2, []), "sure", most=few)
        self.assertEqual((type(told), told.entry), (Endless, (0, 0)))
        told = error_of(judge_program, (longer, longer), Book(2, 2, [(1, 1)]), Falls(2, []), "sure", most=few)
        self.assertEqual(told, ("TooMany", few))


class TestFaults(unittest.TestCase):
    def test_faults_keep_what_they_are_given(self):
        for kind in (Unlike, Unproposed):
            fault = kind([0, 1], [1, [0]])
            self.assertEqual(vars(fault), {"entry": (0, 1), "run": (1, (0,))})
            self.assertEqual(fault, kind((0, 1), (1, (0,))))
            self.assertEqual(vars(kind(None, "01")), {"entry": None, "run": "01"})
            for other in (kind((0, 0), fault.run), kind(fault.entry, ()), None, (fault.entry, fault.run), "fault"):
                self.assertNotEqual(fault, other)
        self.assertNotEqual(Unlike((0,), ()), Unproposed((0,), ()))
        self.assertNotEqual(Unproposed((0,), ()), Unlike((0,), ()))
        fault = Endless([0, 1], [1], [0, 0], [])
        self.assertEqual(vars(fault), {"entry": (0, 1), "run": (1,), "loop": (0, 0), "fallen": ()})
        self.assertEqual(fault, Endless((0, 1), (1,), (0, 0), ()))
        for other in (Endless((1, 1), (1,), (0, 0), ()), Endless((0, 1), (), (0, 0), ()), Unlike((0, 1), (1,)),
                      Endless((0, 1), (1,), (0,), ()), Endless((0, 1), (1,), (0, 0), (1,)), None):
            self.assertNotEqual(fault, other)
        run = [0]
        fault = Unlike((0, 0), run)
        run.append(1)
        self.assertEqual(fault.run, (0,))

    def walks(self, program, falls, drawn, entry):
        """Faults along drawn runs, be they shortest or not, with loops that go round more than once."""
        standing, run = begin_by(program, entry), []
        for _ in range(25):
            told = told_by(standing)
            if len(told) > 1:
                yield Unlike(entry, run)
            if not told <= set(entry):
                yield Unproposed(entry, run)
            free = movers(standing)
            for _ in range(2):
                others = drawn.sample(free, drawn.randint(0, len(free)))
                fallen = tuple(house for house in free if house not in others)
                loop, at = [], standing
                while len(loop) < 24 and all(house in movers(at) for house in others) and others:
                    loop.extend(others)
                    at = walk_by(program, at, others)
                    if at == standing and falls.lets(fallen):
                        yield Endless(entry, run, drawn.choice([loop, loop * 2]), drawn.choice([list, tuple])(fallen))
                        break
            if not free:
                return
            run.append(drawn.choice(free))
            standing = walk_by(program, standing, run[-1:])

    def test_right_faults_and_spoilt_ones(self):
        drawn = random.Random(39)
        seen = {"right": 0}
        for program in some_programs(6, 40, values=(1, 2)):
            n, m = len(program), program[0].m
            falls = Falls(n, drawn.choice(all_families(n)))
            book = drawn_book(drawn, n, m, 4)
            for entry in drawn.sample(inputs_of(n, m), min(2, m ** n)):
                for fault in list(self.walks(program, falls, drawn, entry))[:8]:
                    for manner in ("sure", "cells"):
                        for what, spoilt in [(None, fault), *self.spoilt(drawn, program, book, falls, fault)]:
                            looked = spoilt.entry in book if manner == "sure" or isinstance(fault, Endless) else True
                            wanted = what if what == "input" or looked else "input"
                            told = fault_error(program, book, falls, manner, spoilt)
                            self.assertEqual(told, wanted, (vars(spoilt), what))
                            seen[told] = seen.get(told, 0) + 1
        for word in (None, "input", "run", "told", "fallen", "loop", "starved"):
            self.assertGreater(seen.get(word, 0), 20, seen)

    def spoilt(self, drawn, program, book, falls, fault):
        """Couples (word, fault) with one place spoilt."""
        n, m = book.n, book.m
        parts = vars(fault)

        def with_part(name, part):
            return type(fault)(**{**parts, name: part})
        for wrong in (None, (), fault.entry[1:], "00", fault.entry + (0,), (m,) + fault.entry[1:],
                      (True,) + fault.entry[1:], (-1,) + fault.entry[1:], (None,) * n):
            yield "input", with_part("entry", wrong)
        for wrong in (None, "0", {0: 0}, 5, fault.run + (n,), (True,) + fault.run, fault.run + (None,), (-1,),
                      fault.run + ("0",)):
            yield "run", with_part("run", wrong)
        standing = walk_by(program, begin_by(program, fault.entry), fault.run)
        done = [house for house in range(n) if house not in movers(standing)]
        for house in done:
            yield "run", with_part("run", fault.run + (house,))
        if not isinstance(fault, Endless):
            yield "told", with_part("run", ())
            return
        for wrong in (None, "0", {}, 5, (n,), (True,), (-1,), fault.fallen + (fault.loop[0], fault.loop[0]), ("0",),
                      *[(house,) for house in done], tuple(range(n)) if done else (0, 0)):
            yield "fallen", with_part("fallen", wrong)
        if len(fault.fallen) > 1:
            yield "fallen", with_part("fallen", fault.fallen[::-1])
        others = tuple(house for house in movers(standing) if house not in fault.fallen)
        for wrong in (None, "0", {}, (), [], fault.loop + (n,), fault.loop + (True,), fault.loop + (None,), 5,
                      fault.loop + fault.loop[:1], *[(house,) + fault.loop for house in fault.fallen + tuple(done)]):
            yield "loop", with_part("loop", wrong)
        for house in others:
            alone = tuple(step for step in fault.loop if step != house)
            if alone and error_of(last_standing, program, standing, alone) is None:
                leads_back = walk_by(program, standing, alone) == standing
                yield "starved" if leads_back else "loop", with_part("loop", alone)
        for house in fault.fallen:
            fewer = tuple(other for other in fault.fallen if other != house)
            yield "starved", with_part("fallen", fewer)

    def test_words_in_their_order(self):
        """Two things are wrong at once: the word of the first one is told."""
        waits = (HouseTable(2, 1, [0, 0]),) * 2
        book, falls = Book(2, 2, [(0, 1)]), Falls(2, [(0,)])
        loop = (1, 1)
        for fault, word in (
                (None, "kind"), ((0, 1), "kind"), (5, "kind"), ("Unlike", "kind"),
                (Endless((0, 0), None, None, None), "input"), (Endless((0, 1), None, None, None), "run"),
                (Endless((0, 1), (2,), (), (0, 0)), "run"), (Endless((0, 1), (1,), (), (1,)), "fallen"),
                (Endless((0, 1), (1,), (0, 0), (0, 1)), "fallen"), (Endless((0, 1), (1,), (0,), (0,)), "loop"),
                (Endless((0, 1), (1,), (0, 0), (0,)), "loop"), (Endless((0, 1), (1,), (1,), ()), "loop"),
                (Endless((0, 1), (1,), loop, ()), "starved"), (Endless((0, 1), (1,), loop, (0,)), None),
                (Endless([0, 1], [1], [1, 1], [0]), None), (Unlike((0, 0), None), "run"), (Unlike((0, 2), None), "input"),
                (Unlike((0, 1), ()), "told"), (Unproposed((0, 1), (0,)), "told")):
            self.assertEqual(fault_error(waits, book, falls, "cells", fault), word, getattr(fault, "loop", fault))
        self.assertEqual(fault_error(waits, book, falls, "sure", Unlike((0, 0), None)), "input")

    def test_one_run_can_be_both(self):
        bold = (HouseTable(2, 1, [0, 0, 0], [(0, (None,), ("done", 1)), (0, (0,), ("done", 2))]),) * 2
        book, falls = Book(2, 3, [(0, 0)]), Falls(2, [])
        run = (0, 0, 1, 1)
        for fault in (Unlike((0, 0), run), Unproposed((0, 0), run), Unproposed((0, 0), run[:2])):
            self.assertIsNone(fault_error(bold, book, falls, "sure", fault))
        self.assertEqual(fault_error(bold, book, falls, "sure", Unlike((0, 0), run[:2])), "told")
        self.assertEqual(fault_error(bold, book, falls, "sure", Unproposed((0, 0), run[:1])), "told")


if __name__ == "__main__":
    unittest.main()
