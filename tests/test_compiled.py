"""firmvalues.compiled: points 11.5 and 11.9, by walking all standings."""

import random
import unittest

from firmvalues.books import Book
from firmvalues.compiled import compiled_program, plan_program
from firmvalues.deciders import earliest_plan
from firmvalues.falls import Falls
from firmvalues.outcomes import Outcomes
from firmvalues.tables import HouseTable
from firmvalues.verdicts import judge_program
from programs import SecondGraph, begin_by, is_stuck_by
from reckon import all_families, rows
from test_deciders import right_worlds, views_of


class TestPrograms(unittest.TestCase):
    def test_tables_that_follow_a_plan(self):
        drawn = random.Random(111)
        for _ in range(80):
            n, m = drawn.randint(2, 5), drawn.randint(1, 4)
            views = views_of(n, m) + [(None,) * n]
            plan = {view: drawn.randrange(m) for view in drawn.sample(views, drawn.randint(0, min(60, len(views))))}
            kept = dict(plan)
            program = plan_program(n, m, plan)
            self.assertEqual((type(program), plan), (tuple, kept))
            self.assertEqual([(table.n, table.m, table.states, table.start) for table in program],
                             [(n, m, m, tuple(range(m)))] * n)
            for house, table in enumerate(program):
                for state in range(m):
                    for others in drawn.sample(rows([None, *range(m)], n - 1), min(20, (m + 1) ** (n - 1))):
                        view = others[:house] + (state,) + others[house:]
                        wanted = ("done", plan[view]) if view in plan else state
                        self.assertEqual(table.next_move(state, others), wanted)
                self.assertTrue(all(plan[others[:house] + (state,) + others[house:]] == move[1]
                                    for state, others, move in table.moves))
                self.assertEqual(len(table.moves), sum(view[house] is not None for view in plan))

    def test_the_greatest_plan(self):
        plan = {view: 3 for view in views_of(5, 4)}
        for table in plan_program(5, 4, plan):
            self.assertEqual(len(table.moves), 4 * 5 ** 4)

    def test_compiled_programs_are_right(self):
        decided = 0
        for drawn, book, falls, outcomes, manner in right_worlds(12, 112):
            program = compiled_program(book, falls, outcomes, manner)
            plan = earliest_plan(book, falls, outcomes, manner)
            self.assertEqual(program, plan_program(book.n, book.m, plan))
            self.assertTrue(all(type(table) is HouseTable for table in program))
            self.assertIsNone(judge_program(program, book, falls, manner))
            for entry in book:
                graph = SecondGraph(program, begin_by(program, entry))
                self.assertEqual(graph.can_come(graph.first), {outcomes.value_of(entry)})
                self.assertFalse(is_stuck_by(graph, falls))
                decided += 1
        self.assertGreater(decided, 80)

    def test_four_and_five_houses(self):
        for drawn, book, falls, outcomes, manner in right_worlds(4, 113, houses=(4, 5)):
            program = compiled_program(book, falls, outcomes, manner)
            self.assertIsNone(judge_program(program, book, falls, manner))

    def test_the_example(self):
        book = Book(3, 2, [(0, 0, 0), (0, 1, 1), (1, 0, 1), (1, 1, 0), (1, 1, 1)])
        outcomes = Outcomes(book.inputs, (0, 1, 1, 1, 1))
        program = compiled_program(book, Falls.at_most(3, 1), outcomes, "sure")
        self.assertEqual(program[1].next_move(1, (None, None)), ("done", 1))
        self.assertEqual(program[0].next_move(0, (None, None)), 0)
        self.assertEqual(program[0].next_move(0, (None, 0)), ("done", 0))
        program = compiled_program(book, Falls.at_most(3, 1), outcomes, "cells")
        self.assertEqual(program[1].next_move(1, (None, None)), 1)

    def test_every_family(self):
        for n in (2, 3):
            for lots in all_families(n):
                falls, book = Falls(n, lots), Book(n, 2, [(0,) * n])
                outcomes = Outcomes(book.inputs, (0,))
                for manner in ("sure", "cells"):
                    self.assertIsNone(judge_program(compiled_program(book, falls, outcomes, manner), book, falls, manner))


if __name__ == "__main__":
    unittest.main()
