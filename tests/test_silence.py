"""firmvalues.silence: points 10.1 and 10.2, for every lot that is let, with every fault walked."""

import itertools
import random
import unittest

from firmvalues import silence
from firmvalues.books import Book
from firmvalues.falls import Falls
from firmvalues.silence import Settled, silent_run, unheard_run
from firmvalues.tables import HouseTable
from firmvalues.verdicts import Endless, Unproposed, fault_error
from programs import begin_by, movers, shows_by, some_programs, told_by, walk_by
from reckon import NO_SEQUENCES, all_families, error_of, inputs_of, lots_of
from test_foe import rounds_by


class TestSilence(unittest.TestCase):
    def worlds(self, many, seed, houses=(2, 3)):
        drawn = random.Random(seed)
        for program in some_programs(many, seed, houses=houses):
            n = len(program)
            falls = Falls(n, drawn.choice(all_families(n)))
            yield drawn, program, falls, inputs_of(n, program[0].m)

    def test_every_lot_that_is_let(self):
        seen = {"Settled": 0, "Endless": 0}
        for drawn, program, falls, inputs in self.worlds(8, 71, (2, 3, 4)):
            n = len(program)
            for entry in drawn.sample(inputs, min(3, len(inputs))):
                for lot in lots_of(n):
                    given = drawn.sample(lot, len(lot))
                    if not falls.lets(lot):
                        self.assertEqual(error_of(silent_run, program, falls, entry, given), ("NotLet", given))
                        continue
                    begin = begin_by(program, entry)
                    run, loop = rounds_by(program, begin, [house for house in range(n) if house not in lot])
                    told = silent_run(drawn.choice([list, tuple])(program), falls, drawn.choice([list, tuple])(entry), given)
                    seen[type(told).__name__] += 1
                    if loop:
                        self.assertEqual(told, Endless(entry, run, loop, lot))
                        self.assertTrue(shows_by(program, falls, told))
                        book = Book(n, program[0].m, [entry])
                        self.assertIsNone(fault_error(program, book, falls, "cells", told))
                    else:
                        behind = walk_by(program, begin, run)
                        self.assertEqual(set(movers(behind)), set(lot))
                        self.assertEqual(told, Settled(entry, run, tuple(sorted(told_by(behind)))))
        self.assertGreater(min(seen.values()), 80)

    def test_other_inputs(self):
        seen = {"Settled": 0, "Endless": 0, "Unproposed": 0, "UnlikeHouse": 0}
        for drawn, program, falls, inputs in self.worlds(20, 72):
            n = len(program)
            entry = drawn.choice(inputs)
            for lot in falls.each_lot():
                silent = silent_run(program, falls, entry, lot)
                for other in drawn.sample(inputs, min(6, len(inputs))):
                    given = (program, falls, list(entry), lot[::-1], list(other))
                    outside = [house for house in range(n) if entry[house] != other[house] and house not in lot]
                    if outside:
                        self.assertEqual(error_of(unheard_run, *given), ("UnlikeHouse", outside[0]))
                        seen["UnlikeHouse"] += 1
                        continue
                    told = unheard_run(*given)
                    seen[type(told).__name__] += 1
                    if isinstance(silent, Endless):
                        self.assertEqual(told, silent)
                        continue
                    behind = walk_by(program, begin_by(program, other), silent.run)
                    self.assertEqual(silent.told, tuple(sorted(told_by(behind))))
                    if set(silent.told) <= set(other):
                        self.assertEqual(told, Settled(other, silent.run, silent.told))
                    else:
                        self.assertEqual(told, Unproposed(other, silent.run))
                        self.assertTrue(shows_by(program, falls, told))
        self.assertGreater(min(seen.values()), 20)

    def test_lots_that_are_none(self):
        table = HouseTable(3, 1, [0, 0])
        falls = Falls(3, [(0, 1)])
        for lot in (*NO_SEQUENCES, (2,), (0, 2), (True,), (None,), (-1,), ("0",), (3,), ((0,),), [0, False], [[0]]):
            for call in (silent_run, lambda *things: unheard_run(*things, None)):
                self.assertEqual(error_of(call, [table] * 3, falls, (0, 1, 0), lot), ("NotLet", lot))
        for lot in ((0, 1), [1, 0], (1, 0, 1)):
            told = silent_run([table] * 3, falls, (0, 1, 0), lot)
            self.assertEqual(told, Endless((0, 1, 0), (2,), (2, 2), (0, 1)))
            self.assertEqual(unheard_run([table] * 3, falls, (0, 1, 0), lot, (1, 0, 0)), told)

    def test_what_is_refused_and_in_which_order(self):
        table, falls = HouseTable(2, 1, [0, 0]), Falls(2, [(0,)])
        calls = (silent_run, lambda *things: unheard_run(*things, None))
        for call in calls:
            for program in (*NO_SEQUENCES, [table], [table] * 6):
                self.assertEqual(error_of(call, program, falls, None, None), ("BadProgram", 0, "many"))
            self.assertEqual(error_of(call, [table, 5], falls, None, None), ("BadProgram", 1, "table"))
            for entry in (*NO_SEQUENCES, (), (0,)):
                self.assertEqual(error_of(call, [table, table], falls, entry, None), ("BadInput", "length", 0))
            for house, wrong in itertools.product((0, 1), (True, None, -1, 2, "0")):
                entry = ([0] * house + [wrong, None])[:2]
                self.assertEqual(error_of(call, [table, table], falls, entry, None), ("BadInput", "value", house))
            self.assertEqual(error_of(call, [table, table], falls, [0, 1], (1,)), ("NotLet", (1,)))
        program = [table, table]
        self.assertEqual(error_of(unheard_run, program, falls, (0, 1), (1,), None), ("NotLet", (1,)))
        for other in (*NO_SEQUENCES, (), (0,)):
            self.assertEqual(error_of(unheard_run, program, falls, (0, 1), [0], other), ("BadInput", "length", 0))
        self.assertEqual(error_of(unheard_run, program, falls, (0, 1), [0], (1, True)), ("BadInput", "value", 1))
        self.assertEqual(error_of(unheard_run, program, falls, (0, 1), [0], (1, 0)), ("UnlikeHouse", 1))
        self.assertEqual(error_of(unheard_run, program, falls, (0, 1), [], (1, 0)), ("UnlikeHouse", 0))
        self.assertEqual(type(unheard_run(program, falls, (0, 1), [0], (1, 1))), Endless)

    def test_results(self):
        settled = Settled([0, 1], [1, 1], [0])
        self.assertEqual(vars(settled), {"entry": (0, 1), "run": (1, 1), "told": (0,)})
        self.assertEqual(settled, silence.Settled((0, 1), (1, 1), (0,)))
        for other in (Settled((0, 0), (1, 1), (0,)), Settled((0, 1), (1,), (0,)), Settled((0, 1), (1, 1), ()), None,
                      Unproposed((0, 1), (1, 1)), ((0, 1), (1, 1), (0,))):
            self.assertFalse(settled == other)


if __name__ == "__main__":
    unittest.main()
