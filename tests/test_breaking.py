"""firmvalues.breaking: point 10.6, every program broken by clashes, with the link and the fault walked."""

import itertools
import random
import time
import unittest

from firmvalues.books import Book
from firmvalues.breaking import Broken, break_program, outcomes_or_break
from firmvalues.falls import Falls
from firmvalues.judging import judge_clash, judge_outcomes
from firmvalues.linking import linked_groups
from firmvalues.outcomes import Clash, Outcomes, decide
from firmvalues.silence import Settled
from firmvalues.tables import HouseTable
from firmvalues.verdicts import Endless, Unlike, Unproposed, fault_error, judge_program
from clashes import some_clashes
from programs import (KINDS, SecondGraph, begin_by, counters, drawn_program, right_programs, shows_by, some_programs)
from reckon import (NO_SEQUENCES, all_families, error_of, fits_by, inputs_of, let_by)


def values_by(program, entries):
    """For each input all values that can come."""
    graphs = {entry: SecondGraph(program, begin_by(program, entry)) for entry in entries}
    return {entry: sorted(graph.can_come(graph.first)) for entry, graph in graphs.items()}


def edge_by(trees, came):
    """The first couple along trees of which the values are unlike."""
    for tree in trees:
        for entry, parent in tree:
            if parent is not None and came[entry] != came[tree[parent][0]]:
                return "edge", entry, tree[parent][0]
    return None


class TestBroken(unittest.TestCase):
    def check_fault(self, program, book, falls, manner, broken):
        """The fault is of the kind that the link asks, and walking it bears it out."""
        fault, n = broken.fault, book.n
        self.assertTrue(shows_by(program, falls, fault))
        self.assertIsNone(fault_error(program, book, falls, manner, fault))
        word, entry = broken.link[:2]
        if word == "ways":
            self.assertIn(type(fault), (Endless, Unlike))
            self.assertEqual(fault.entry, entry)
        elif word == "edge":
            differ = tuple(house for house in range(n) if entry[house] != broken.link[2][house])
            self.assertEqual((type(fault), fault.entry, fault.fallen), (Endless, entry, differ))
        else:
            value = broken.link[2]
            places = {house for house in range(n) if entry[house] == value}
            if isinstance(fault, Endless):
                self.assertTrue(places and places <= set(fault.fallen))
                self.assertEqual(fault.entry, entry)
            else:
                self.assertEqual(type(fault), Unproposed)
                differ = {house for house in range(n) if entry[house] != fault.entry[house]}
                self.assertTrue(places <= differ and falls.lets(tuple(differ | places)))
                self.assertNotIn(value, fault.entry)
        return word + (" Unproposed" if word == "value" and fault.entry != entry else " " + type(fault).__name__)

    def link_by(self, program, clash):
        came = values_by(program, [entry for entry, _ in clash.tree])
        for entry, _ in clash.tree:
            if len(came[entry]) != 1:
                return "ways", entry
        edge = edge_by([clash.tree], came)
        if edge is not None:
            return edge
        value = came[clash.tree[0][0]][0]
        return "value", clash.fails[value], value

    def programs_for(self, drawn, book, falls, manner):
        """Programs of all kinds, among them right ones of a part of the book and ones that tell one value always."""
        for kind in KINDS:
            yield drawn_program(drawn, book.n, book.m, kind)
        for _ in range(4):
            smaller = Book(book.n, book.m, [entry for entry in book.inputs if drawn.random() < 0.6])
            outcomes = decide(smaller, falls, manner)
            if isinstance(outcomes, Outcomes) and len(smaller) > 0:
                yield next(right_programs(drawn, book.n, book.m, falls))[0]
        for _ in range(2):
            yield self.one_value_program(drawn, book.n, book.m, drawn.randrange(book.m))

    def one_value_program(self, drawn, n, m, value):
        """Each house tells one value as soon as it has seen so many others, or also at once."""
        wanted = drawn.randint(0, n - 1)
        entries = [(state, others, ("done", value)) for state in range(m)
                   for others in itertools.product([None, *range(m)], repeat=n - 1)
                   if n - 1 - others.count(None) >= wanted]
        return (HouseTable(n, m, list(range(m)), entries),) * n

    def test_every_clash_breaks_every_program(self):
        seen = {}
        for drawn, book, falls, clash in some_clashes(35, 91, manners=("sure", "cells"), values=(2, 2, 3)):
            self.assertIsNone(judge_clash(book, falls, clash))
            for program in self.programs_for(drawn, book, falls, clash.manner):
                broken = break_program(drawn.choice([list, tuple])(program), book, falls, clash)
                self.assertEqual(type(broken), Broken)
                self.assertEqual(broken.link, self.link_by(program, clash))
                word = self.check_fault(program, book, falls, clash.manner, broken)
                seen[word] = seen.get(word, 0) + 1
                self.assertIsNotNone(judge_program(program, book, falls, clash.manner))
        for word in ("ways Endless", "ways Unlike", "edge Endless", "value Unproposed", "value Endless"):
            self.assertGreater(seen.get(word, 0), 3, seen)

    def test_edges_between_groups_of_one_value_each(self):
        """Each house tells its own value where all it saw is alike, else it waits: edges alone can break this."""
        seen = 0
        for drawn, book, falls, clash in some_clashes(20, 92, manners=("sure", "cells"), values=(2,)):
            n, m = book.n, book.m
            entries = [(state, others, ("done", max([state, *others]))) for state in range(m)
                       for others in itertools.product(range(m), repeat=n - 1)]
            program = (HouseTable(n, m, list(range(m)), entries),) * n
            broken = break_program(program, book, falls, clash)
            self.assertEqual(broken.link, self.link_by(program, clash))
            self.check_fault(program, book, falls, clash.manner, broken)
            seen += broken.link[0] == "edge"
        self.assertGreater(seen, 5)

    def test_outcomes_or_break(self):
        drawn = random.Random(93)
        seen = {}
        for program in some_programs(12, 94, values=(1, 2, 2)):
            n, m = len(program), program[0].m
            inputs = inputs_of(n, m)
            for _ in range(3):
                book = Book(n, m, drawn.sample(inputs, drawn.randint(0, min(5, len(inputs)))))
                falls = Falls(n, drawn.choice([((0,), (1, 2)), ((0,), (1,), (2,)), ((0, 1), (2,)), ((0, 1), (1, 2))]
                                              if n == 3 else [((0,), (1,))]))
                for manner in ("sure", "cells"):
                    told = outcomes_or_break(drawn.choice([list, tuple])(program), book, falls, manner)
                    self.check_outcomes(program, book, falls, manner, told, seen)
        for word in ("ways", "edge", "value", "right", "outcomes"):
            self.assertGreater(seen.get(word, 0), 5, seen)

    def check_outcomes(self, program, book, falls, manner, told, seen):
        came = values_by(program, book.inputs)
        many = [entry for entry in book.inputs if len(came[entry]) != 1]
        if many:
            link = ("ways", many[0])
        else:
            link = edge_by(linked_groups(book, falls, manner), came)
            let = let_by(book.n, falls.lots)
            unfit = [entry for entry in book.inputs if not fits_by(let, manner, entry, came[entry][0])]
            if link is None and unfit:
                link = ("value", unfit[0], came[unfit[0]][0])
        if link is not None:
            self.assertEqual((type(told), told.link), (Broken, link))
            self.check_fault(program, book, falls, manner, told)
        else:
            self.assertEqual(told, Outcomes(book.inputs, [came[entry][0] for entry in book.inputs]))
            self.assertIsNone(judge_outcomes(book, falls, manner, told.told))
        right = judge_program(program, book, falls, manner) is None
        self.assertFalse(right and link is not None)
        word = link[0] if link else "right" if right else "outcomes"
        seen[word] = seen.get(word, 0) + 1

    def test_right_programs_tell_their_outcomes(self):
        drawn = random.Random(95)
        for n, m in ((2, 2), (2, 3), (3, 2), (3, 2)):
            for lots in all_families(n):
                falls = Falls(n, lots)
                if falls.sure == ():
                    program, book, outcomes, manner = next(right_programs(drawn, n, m, falls))
                    self.assertEqual(outcomes_or_break(program, book, falls, manner), outcomes.cut_to(book))

    def test_the_empty_book(self):
        waits = (HouseTable(2, 1, [0, 0]),) * 2
        for manner in ("sure", "cells"):
            self.assertEqual(outcomes_or_break(waits, Book(2, 2, []), Falls.at_most(2, 1), manner), Outcomes((), ()))

    def test_a_tree_in_another_order(self):
        """The order of the tree tells which input comes first, not the order of the inputs."""
        falls, book = Falls.at_most(2, 1), Book(2, 2, inputs_of(2, 2))
        waits = (HouseTable(2, 1, [0, 0]),) * 2
        for first, second, last in (((1, 1), (1, 0), (0, 0)), ((0, 0), (1, 0), (1, 1)), ((1, 0), (0, 0), (1, 1))):
            tree = [[list(first), None], [second, 0], [last, 0 if first == (1, 0) else 1]]
            clash = Clash("cells", tree, [(1, 1), (0, 0)])
            self.assertEqual(break_program(waits, book, falls, clash).link, ("ways", first))


class TestRefused(unittest.TestCase):
    def test_break_program(self):
        book, falls = Book(2, 2, inputs_of(2, 2)), Falls.at_most(2, 1)
        waits = (HouseTable(2, 1, [0, 0]),) * 2
        clash = decide(book, falls, "cells")
        for program in (waits, None):
            self.assertEqual(error_of(break_program, program, book, Falls(3, []), Clash("x", 0, 0)), ("UnlikeHouses",))
            self.assertEqual(error_of(break_program, program, book, falls, Clash("x", 0, 0)), ("BadManner", "x"))
            for manner in ("sure", "cells", "letters"):
                for wrong in (Clash(manner, None, None), Clash(manner, clash.tree, None), Clash(manner, [5], None),
                              Clash(manner, clash.tree, [(0, 0), (0, 0)])):
                    fault = judge_clash(book, falls, wrong)
                    self.assertEqual(error_of(break_program, program, book, falls, wrong), ("WrongClash", *fault))
            letters = decide(book, falls, "letters")
            self.assertIsNone(judge_clash(book, falls, letters))
            self.assertEqual(error_of(break_program, program, book, falls, letters), ("BadManner", "letters"))

    def many_states(self, value):
        """Three houses count for ever from this value, beyond 20,000 standings; from others they stay as they are."""
        counter = counters(3, 14)[0]
        start = [14, 14]
        start[value] = 0
        return (HouseTable(3, 15, start, counter.moves),) * 3

    def test_too_many_standings(self):
        falls = Falls.at_most(3, 1)
        book = Book(3, 2, inputs_of(3, 2))
        for value in (0, 1):
            program = self.many_states(value)
            clash = decide(book, falls, "cells")
            told = error_of(break_program, program, book, falls, clash)
            other = error_of(outcomes_or_break, program, book, falls, "cells")
            if value == 0:
                self.assertEqual((told, other), (("TooMany", 20000),) * 2)
            else:
                # The input of zeroes alone is looked at: no value can come from it.
                self.assertEqual((told, other), (None, None))
                self.assertEqual(break_program(program, book, falls, clash).link, ("ways", (0, 0, 0)))
                tree = [[(1, 1, 1), None], [(1, 1, 0), 0], [(1, 0, 0), 1], [(0, 0, 0), 2]]
                turned = Clash("cells", tree, [(1, 1, 1), (0, 0, 0)])
                self.assertEqual(error_of(break_program, program, book, falls, turned), ("TooMany", 20000))

    def test_outcomes_or_break(self):
        table = HouseTable(2, 1, [0, 0])
        book, falls = Book(2, 2, [(0, 1)]), Falls(2, [(0,)])
        for other_book, other_falls in ((Book(3, 1, []), Falls(3, [])), (Book(3, 2, []), falls), (book, Falls(3, []))):
            told = error_of(outcomes_or_break, [table, table], other_book, other_falls, None)
            self.assertEqual(told, ("UnlikeHouses",))
        self.assertEqual(error_of(outcomes_or_break, [table, table], Book(2, 3, []), falls, None), ("UnlikeValues",))
        for manner in ("letters", "", None, 0, True, []):
            self.assertEqual(error_of(outcomes_or_break, [table, table], book, falls, manner), ("BadManner", manner))
        for lots, house in (((), 0), (((0,),), 1), (((1,),), 0)):
            for manner in ("sure", "cells"):
                told = error_of(outcomes_or_break, [table, table], book, Falls(2, lots), manner)
                self.assertEqual(told, ("SureHouse", house))
        self.assertEqual(error_of(outcomes_or_break, self.many_states(0), Book(3, 2, [(0, 0, 0)]), Falls(3, [(1, 2)]),
                                  "sure"), ("SureHouse", 0))
        for program in (*NO_SEQUENCES, [table], [table, 5]):
            self.assertEqual(error_of(outcomes_or_break, program, Book(3, 1, []), falls, None)[0], "BadProgram")

    def test_little_time(self):
        program, falls = counters(3, 13), Falls.at_most(3, 1)
        program = tuple(HouseTable(3, 13, [0, 0], table.moves) for table in program)
        book = Book(3, 2, inputs_of(3, 2))
        begun = time.monotonic()
        broken = break_program(program, book, falls, decide(book, falls, "sure"))
        self.assertEqual((broken.link, type(broken.fault)), (("ways", (0, 0, 0)), Endless))
        self.assertTrue(shows_by(program, falls, broken.fault))
        self.assertLess(time.monotonic() - begun, 10)

    def test_results(self):
        fault = Unlike((0, 1), (0,))
        broken = Broken(["edge", [0, 1], (1, 1)], fault)
        self.assertEqual(vars(broken), {"link": ("edge", (0, 1), (1, 1)), "fault": fault})
        self.assertEqual(broken, Broken(("edge", (0, 1), (1, 1)), Unlike([0, 1], [0])))
        for other in (Broken(("ways", (0, 1)), fault), Broken(broken.link, Unproposed((0, 1), (0,))), None, fault,
                      Broken(broken.link, None), Settled((), (), ())):
            self.assertFalse(broken == other)


if __name__ == "__main__":
    unittest.main()
