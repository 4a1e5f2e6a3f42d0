"""firmvalues.outcomes: points 5.1 to 5.5, 5.8 and 5.9, with the example behind 5.9."""

import itertools
import random
import time
import unittest

from firmvalues import outcomes
from firmvalues.books import Book
from firmvalues.falls import Falls
from firmvalues.judging import judge_clash, judge_outcomes, number_of_way
from firmvalues.linking import linked_groups, tree_fault
from firmvalues.outcomes import Clash, Outcomes, decide
from reckon import (MANNERS, NO_SEQUENCES, are_outcomes_by, error_of, fits_by, groups_by, inputs_of, let_by, values_by,
                    worlds)


class TestResults(unittest.TestCase):
    def test_outcomes_keep_what_they_are_given(self):
        inputs, told = [[0, 1], [1, 1]], [0, 1]
        kept = Outcomes(inputs, told)
        inputs[0][0] = 7
        told.append(5)
        self.assertEqual((kept.inputs, kept.told), (((0, 1), (1, 1)), (0, 1)))
        for things in ((None, None), (5, "x"), ((), (1, 2)), ([None, {}], {})):
            odd = Outcomes(*things)
            self.assertEqual((odd.inputs, odd.told), tuple(tuple(t) if isinstance(t, list) else t for t in things))
            self.assertEqual(error_of(odd.value_of, (0, 0)), ("NotInBook", (0, 0)))

    def test_values_of_inputs(self):
        kept = Outcomes(inputs_of(2, 2), (0, 1, 1, 0))
        self.assertEqual([kept.value_of(entry) for entry in inputs_of(2, 2)], [0, 1, 1, 0])
        for entry in ((0, 2), (0, True), (False, 0), (0,), (), None, "00", 5, {0, 1}, (0, None), ((0, 0),)):
            self.assertEqual(error_of(kept.value_of, entry), ("NotInBook", entry))

    def test_cut_to_a_part(self):
        kept = Outcomes([(0, 0), (0, 1), (1, 1)], (0, 1, 2))
        self.assertEqual(kept.cut_to(Book(2, 2, [(1, 1), (0, 0)])), Outcomes(((0, 0), (1, 1)), (0, 2)))
        self.assertEqual(kept.cut_to(Book(2, 2, [])), Outcomes((), ()))
        self.assertEqual(error_of(kept.cut_to, Book(2, 3, [(1, 1), (2, 0), (1, 0)])), ("NotInBook", (1, 0)))
        self.assertEqual(kept, Outcomes([(0, 0), (0, 1), (1, 1)], (0, 1, 2)))

    def test_outcomes_cut_to_any_part_are_outcomes_of_it(self):
        drawn = random.Random(1)
        for book, falls in worlds(20, 6, 51):
            for manner in MANNERS:
                told = decide(book, falls, manner)
                if isinstance(told, Outcomes):
                    part = Book(book.n, book.m, drawn.sample(book.inputs, len(book) // 2))
                    self.assertIsNone(judge_outcomes(part, falls, manner, told.cut_to(part).told))

    def test_a_clash_keeps_what_it_is_given(self):
        tree, fails = [[[0, 1], None], ([1, 1], 0)], [[0, 1]]
        kept = Clash("sure", tree, fails)
        tree[0][0][0] = 7
        fails.append(None)
        self.assertEqual((kept.manner, kept.tree, kept.fails), ("sure", (((0, 1), None), ((1, 1), 0)), ((0, 1),)))
        odd = Clash(None, "x", {1: 2})
        self.assertEqual((odd.manner, odd.tree, odd.fails), (None, "x", {1: 2}))

    def test_equality_is_of_one_class(self):
        self.assertEqual(Outcomes([[0, 0]], [1]), Outcomes(((0, 0),), (1,)))
        self.assertEqual(Clash("sure", [[[0, 0], None]], [[0, 0]]), Clash("sure", (((0, 0), None),), ((0, 0),)))
        one, two = Outcomes(((0, 0),), (1,)), Clash("sure", (), ())
        for other in (Outcomes(((0, 0),), (0,)), Outcomes(((0, 1),), (1,)), two, None, (((0, 0),), (1,)), 5):
            self.assertFalse(one == other)
            self.assertTrue(one != other)
        for other in (Clash("cells", (), ()), Clash("sure", ((),), ()), Clash("sure", (), ((),)), one, None, ()):
            self.assertFalse(two == other)


class TestDeciding(unittest.TestCase):
    def decided_by(self, book, let, manner, order):
        told = {}
        for group in groups_by(let, book.n, manner, book.inputs):
            fitting = values_by(let, manner, book.m, group)
            if not fitting:
                return group
            told.update({entry: [value for value in order if value in fitting][0] for entry in group})
        return Outcomes(book.inputs, [told[entry] for entry in book.inputs])

    def test_outcomes_or_the_clash_of_the_first_group(self):
        drawn = random.Random(2)
        kinds = set()
        for book, falls in worlds(40, 9, 52):
            let = let_by(book.n, falls.lots)
            for manner in MANNERS:
                order = drawn.sample(range(book.m), book.m)
                for passed in (None, order, tuple(order)):
                    told = decide(book, falls, manner, passed)
                    wanted = self.decided_by(book, let, manner, passed or range(book.m))
                    if isinstance(wanted, Outcomes):
                        self.assertEqual(told, wanted)
                        self.assertIsNone(judge_outcomes(book, falls, manner, told.told))
                    else:
                        self.check_clash(book, falls, let, manner, wanted, told)
                    kinds.add(type(told))
        self.assertEqual(kinds, {Outcomes, Clash})

    def check_clash(self, book, falls, let, manner, group, told):
        trees = [tree for tree in linked_groups(book, falls, manner) if tree[0][0] == group[0]]
        entries = [entry for entry, parent in trees[0]]
        fails = [[e for e in entries if not fits_by(let, manner, e, value)][0] for value in range(book.m)]
        self.assertEqual(told, Clash(manner, trees[0], fails))
        self.assertEqual(repr(vars(told)), repr(vars(Clash(manner, trees[0], fails))))
        self.assertIsNone(judge_clash(book, falls, told))

    def test_exactly_one_of_the_two_over_all_rows_of_values(self):
        for book, falls in worlds(6, 12, 53):
            let = let_by(book.n, falls.lots)
            for manner in MANNERS:
                every = [told for told in itertools.product(range(book.m), repeat=len(book))
                         if are_outcomes_by(let, book.n, book.m, manner, book.inputs, told)]
                decided = decide(book, falls, manner)
                self.assertIs(isinstance(decided, Clash), not every)
                self.assertEqual(outcomes.count_ways(book, falls, manner), len(every))
                ways = outcomes.each_way(book, falls, manner)
                self.assertIs(iter(ways), ways)
                self.assertEqual([way.told for way in ways], every)
                if every:
                    self.assertEqual(decided.told, every[0])
                for number, told in enumerate(every):
                    way = outcomes.outcomes_at(book, falls, manner, number)
                    self.assertEqual(way, Outcomes(book.inputs, told))
                    self.assertEqual(number_of_way(book, falls, manner, list(told)), number)

    def test_empty_books_one_value_and_no_falls(self):
        for manner in MANNERS:
            for n in range(2, 6):
                falls = Falls.at_most(n, n - 1)
                self.assertEqual(decide(Book(n, 2, []), falls, manner), Outcomes((), ()))
                self.assertEqual(outcomes.count_ways(Book(n, 2, []), falls, manner), 1)
                self.assertEqual(decide(Book(n, 1, inputs_of(n, 1)), falls, manner).told, (0,))
                book = Book(n, 2, inputs_of(n, 2))
                self.assertEqual(decide(book, Falls(n, []), manner, (1, 0)).told, tuple(max(e) for e in book.inputs))
                self.assertIsInstance(decide(book, falls, manner), Clash)

    def test_refusals_in_their_order(self):
        book, falls, unlike = Book(2, 2, inputs_of(2, 2)), Falls(2, [(0,)]), Falls(3, [])
        self.assertEqual(error_of(decide, book, unlike, "no", (9,)), ("UnlikeHouses",))
        self.assertEqual(error_of(decide, book, falls, "no", (9,)), ("BadManner", "no"))
        for order in (5, "01", {0, 1}, {0: 0, 1: 1}, (), (0,), (0, 0), (0, 1, 0), (1, 2), (0, True), (False, 1),
                      (0, None), ("0", "1"), True, False):
            self.assertEqual(error_of(decide, book, falls, "sure", order), ("BadOrder",))
        self.assertEqual(error_of(decide, Book(2, 2, []), falls, "sure", ()), ("BadOrder",))
        for call in (outcomes.count_ways, outcomes.outcomes_at, outcomes.each_way):
            more = (None,) if call is outcomes.outcomes_at else ()

            def begin(*args):
                told = call(*args)
                return next(told) if call is outcomes.each_way else told
            self.assertEqual(error_of(begin, book, unlike, "no", *more), ("UnlikeHouses",))
            for manner in NO_SEQUENCES:
                self.assertEqual(error_of(begin, book, falls, manner, *more), ("BadManner", manner))


class TestWays(unittest.TestCase):
    def test_numbers_without_outcomes(self):
        book, falls = Book(2, 2, inputs_of(2, 2)), Falls(2, [(0,)])
        many = outcomes.count_ways(book, falls, "sure")
        self.assertGreater(many, 0)
        for number in (-1, many, many + 1, 10 ** 40, True, False, None, "0", 0.0, (0,)):
            self.assertEqual(error_of(outcomes.outcomes_at, book, falls, "sure", number), ("NoWay", number))
        clashing = Falls(2, [(0,), (1,)])
        self.assertEqual(outcomes.count_ways(book, clashing, "sure"), 0)
        self.assertEqual(list(outcomes.each_way(book, clashing, "sure")), [])
        self.assertEqual(error_of(outcomes.outcomes_at, book, clashing, "sure", 0), ("NoWay", 0))

    def test_more_ways_than_can_be_listed(self):
        book, falls = Book(4, 4, inputs_of(4, 4)), Falls(4, [])
        begun = time.monotonic()
        many = 1
        for entry in book.inputs:
            many *= len(set(entry))
        self.assertEqual(outcomes.count_ways(book, falls, "sure"), many)
        last = outcomes.outcomes_at(book, falls, "sure", many - 1)
        self.assertEqual(last.told, tuple(max(entry) for entry in book.inputs))
        drawn = random.Random(3)
        for _ in range(20):
            number = drawn.randrange(many)
            way = outcomes.outcomes_at(book, falls, "sure", number)
            self.assertEqual(number_of_way(book, falls, "sure", way.told), number)
        first = [way.told for way, _ in zip(outcomes.each_way(book, falls, "sure"), range(50))]
        self.assertEqual(first, sorted(first))
        self.assertEqual(first[0], tuple(min(entry) for entry in book.inputs))
        self.assertLess(time.monotonic() - begun, 10)


class TestTrimming(unittest.TestCase):
    def trimmed_by(self, tree, fails):
        """The couples on the ways between two inputs of fails, each way made of the lines up to the root."""
        places = {entry: at for at, (entry, parent) in enumerate(tree)}
        kept = {places[entry] for entry in fails}
        for one, other in itertools.combinations(sorted(kept), 2):
            lines = []
            for at in (one, other):
                line = [at]
                while tree[line[-1]][1] is not None:
                    line.append(tree[line[-1]][1])
                lines.append(line)
            meeting = max(set(lines[0]) & set(lines[1]))
            kept |= {at for line in lines for at in line if at >= meeting}
        kept = sorted(kept)
        couples = [(tree[kept[0]][0], None)] + [(tree[at][0], kept.index(tree[at][1])) for at in kept[1:]]
        return tuple(couples)

    def test_the_example(self):
        book, falls = Book(2, 2, inputs_of(2, 2)), Falls.at_most(2, 1)
        clash = decide(book, falls, "sure")
        self.assertEqual(clash.tree, (((0, 0), None), ((0, 1), 0), ((1, 0), 0), ((1, 1), 1)))
        self.assertEqual(clash.fails, ((1, 1), (0, 0)))
        trimmed = outcomes.trimmed_clash(clash)
        self.assertEqual(trimmed, Clash("sure", (((0, 0), None), ((0, 1), 0), ((1, 1), 1)), ((1, 1), (0, 0))))

    def test_trimmed_clashes(self):
        drawn = random.Random(4)
        sizes = set()
        for book, falls in worlds(40, 20, 54):
            for manner in MANNERS:
                clash = decide(book, falls, manner)
                if isinstance(clash, Outcomes):
                    continue
                let = let_by(book.n, falls.lots)
                entries = [entry for entry, parent in clash.tree]
                for _ in range(4):
                    fails = [drawn.choice([e for e in entries if not fits_by(let, manner, e, value)])
                             for value in range(book.m)]
                    right = Clash(manner, clash.tree, fails)
                    trimmed = outcomes.trimmed_clash(right)
                    self.assertEqual(trimmed, Clash(manner, self.trimmed_by(clash.tree, fails), fails))
                    self.assertIsNone(judge_clash(book, falls, trimmed))
                    self.assertEqual(outcomes.trimmed_clash(trimmed), trimmed)
                    self.check_lists(right, trimmed)
                    sizes.add(len(trimmed.tree))
        self.assertGreater(len(sizes), 4)

    def check_lists(self, clash, trimmed):
        with_lists = Clash(clash.manner, (), ())
        with_lists.tree = [[list(entry), parent] for entry, parent in clash.tree]
        with_lists.fails = [list(entry) for entry in clash.fails]
        kept = repr(vars(with_lists))
        told = outcomes.trimmed_clash(with_lists)
        self.assertEqual(repr(vars(told)), repr(vars(trimmed)))
        self.assertEqual(repr(vars(with_lists)), kept)

    def test_all_of_fails_are_one_input(self):
        falls = Falls(2, [(0,), (1,)])
        book = Book(2, 2, inputs_of(2, 2))
        clash = Clash("cells", decide(book, falls, "cells").tree, [(0, 1), (0, 1)])
        self.assertIsNone(judge_clash(book, falls, clash))
        self.assertEqual(outcomes.trimmed_clash(clash), Clash("cells", (((0, 1), None),), ((0, 1), (0, 1))))

    def test_a_tree_that_is_no_whole_group(self):
        falls = Falls(3, [(0,), (1,), (2,)])
        book = Book(3, 2, inputs_of(3, 2))
        tree = [((0, 1, 0), None), ((0, 1, 1), 0), ((0, 0, 0), 0), ((1, 1, 1), 1)]
        self.assertIsNone(tree_fault(book, falls, "sure", tree))
        clash = Clash("sure", tree, [(1, 1, 1), (0, 0, 0)])
        self.assertEqual(outcomes.trimmed_clash(clash), clash)
        longer = Clash("sure", [((0, 0, 1), None), ((0, 0, 0), 0), ((0, 1, 0), 1), ((0, 1, 1), 0), ((1, 1, 1), 3)],
                       [(1, 1, 1), (0, 0, 0)])
        wanted = ((((0, 0, 1), None), ((0, 0, 0), 0), ((0, 1, 1), 0), ((1, 1, 1), 2)))
        self.assertEqual(outcomes.trimmed_clash(longer).tree, wanted)


if __name__ == "__main__":
    unittest.main()
