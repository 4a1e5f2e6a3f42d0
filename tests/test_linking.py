"""firmvalues.linking: points 4.1 to 4.6 and 4.9, against groups that are joined one by one."""

import itertools
import random
import unittest

from firmvalues import linking
from firmvalues.books import Book, book_of
from firmvalues.falls import Falls
from firmvalues.firmness import fitting_values
from reckon import (MANNERS, NO_SEQUENCES, error_of, groups_by, inputs_of, let_by, near_by, some_families, splits_by,
                    worlds)

BOOK_CALLS = (("linked_groups",), ("group_of", (9, 9)), ("least_chain", (9, 9), (9, 9)), ("tree_fault", None),
              ("groups_fault", ()))


def steps_by(let, n, manner, inputs, entry):
    """The least number of steps from an input to each input that is linked with it."""
    steps = {entry: 0}
    level = [entry]
    while level:
        level = sorted({other for one in level for other in inputs if near_by(let, n, manner, one, other)} - set(steps))
        steps.update({other: max(steps.values()) + 1 for other in level})
    return steps


def tree_by(let, n, manner, inputs, entry):
    steps = steps_by(let, n, manner, inputs, entry)
    order = sorted(steps, key=lambda other: (steps[other], other))
    couples = [(entry, None)]
    for other in order[1:]:
        couples.append((other, min(at for at, one in enumerate(order)
                                   if steps[one] == steps[other] - 1 and near_by(let, n, manner, one, other))))
    return tuple(couples)


class TestNeighbours(unittest.TestCase):
    def test_all_couples_of_inputs(self):
        for n, m in [(2, 1), (2, 2), (2, 4), (3, 2), (3, 3), (4, 2), (5, 2)]:
            for lots in some_families(n, 14, m):
                falls, let = Falls(n, lots), let_by(n, lots)
                inputs = inputs_of(n, m)
                near = {one: [other for other in inputs if near_by(let, n, "cells", one, other)] for one in inputs}
                for one, other in itertools.product(inputs, inputs):
                    self.assertIs(linking.are_neighbours(falls, one, other), other in near[one])
                book = Book(n, m, inputs[::2])
                for entry in inputs:
                    told = linking.neighbours_of(book, falls, list(entry))
                    self.assertEqual(told, tuple(other for other in near[entry] if other in inputs[::2]))

    def test_refusals(self):
        book, falls = Book(3, 2, inputs_of(3, 2)), Falls(3, [(0,)])
        for entry in (*NO_SEQUENCES, (0, 0)):
            self.assertEqual(error_of(linking.neighbours_of, book, Falls(2, []), entry), ("UnlikeHouses",))
            self.assertEqual(error_of(linking.neighbours_of, book, falls, entry), ("BadInput", "length", 0))
        self.assertEqual(error_of(linking.neighbours_of, book, falls, (0, True, 7)), ("BadInput", "value", 1))

    def test_split(self):
        for n in (2, 3, 4, 5):
            for lots in some_families(n, 40, 1):
                falls, let = Falls(n, lots), let_by(n, lots)
                for manner in MANNERS:
                    self.assertIs(linking.is_split(falls, manner), splits_by(let, n, manner))
        for manner in (None, "split", ("letters",), True):
            self.assertEqual(error_of(linking.is_split, Falls(2, []), manner), ("BadManner", manner))


class TestGroups(unittest.TestCase):
    def test_trees_of_all_groups(self):
        for book, falls in worlds(40, 9, 21):
            let = let_by(book.n, falls.lots)
            for manner in MANNERS:
                groups = groups_by(let, book.n, manner, book.inputs)
                trees = linking.linked_groups(book, falls, manner)
                wanted = tuple(tree_by(let, book.n, manner, book.inputs, group[0]) for group in groups)
                self.assertEqual(trees, wanted)
                self.assertIs(type(trees), tuple)
                self.assertEqual([tuple(sorted(entry for entry, parent in tree)) for tree in trees], groups)
                self.assertIsNone(linking.groups_fault(book, falls, manner, trees))

    def test_split_books_have_one_flat_tree(self):
        falls = Falls.at_most(4, 2)
        for inputs in ([], [(0, 1, 1, 0)], inputs_of(4, 2)):
            trees = linking.linked_groups(Book(4, 2, inputs), falls, "letters")
            wanted = tuple((entry, 0 if at else None) for at, entry in enumerate(sorted(inputs)))
            self.assertEqual(trees, (wanted,) if inputs else ())

    def test_group_of_and_least_chain(self):
        drawn = random.Random(5)
        for book, falls in worlds(30, 5, 22):
            let = let_by(book.n, falls.lots)
            for manner in MANNERS:
                groups = groups_by(let, book.n, manner, book.inputs)
                for entry in drawn.sample(book.inputs, min(6, len(book))):
                    group = [group for group in groups if entry in group][0]
                    self.assertEqual(linking.group_of(book, falls, manner, list(entry)), group)
                    steps = steps_by(let, book.n, manner, book.inputs, entry)
                    for other in drawn.sample(book.inputs, min(6, len(book))):
                        chain = linking.least_chain(book, falls, manner, entry, list(other))
                        self.assertEqual(chain is None, other not in group)
                        if chain is not None:
                            self.assertEqual((chain[0], chain[-1], len(chain)), (entry, other, steps[other] + 1))
                            for one, two in zip(chain, chain[1:]):
                                self.assertTrue(near_by(let, book.n, manner, one, two))

    def test_the_least_of_all_shortest_chains(self):
        for n, m, lots, manner in [(3, 2, [(0,), (1,), (2,)], "sure"), (4, 2, [(0,), (1,), (2,), (3,)], "cells"),
                                   (3, 3, [(0,), (1, 2)], "sure"), (4, 2, [(0, 1), (2,), (3,)], "letters"),
                                   (2, 3, [(0,), (1,)], "letters")]:
            let, falls = let_by(n, lots), Falls(n, lots)
            drawn = random.Random(n)
            for _ in range(6):
                inputs = sorted(drawn.sample(inputs_of(n, m), m ** n * 2 // 3))
                book = Book(n, m, inputs)
                for one, other in drawn.choices(list(itertools.product(inputs, inputs)), k=20):
                    chains = [(one,)]
                    while chains and not [chain for chain in chains if chain[-1] == other] and len(chains[0]) <= n + 3:
                        chains = [(*chain, more) for chain in chains for more in inputs
                                  if more not in chain and near_by(let, n, manner, chain[-1], more)]
                    ending = sorted(chain for chain in chains if chain[-1] == other)
                    told = linking.least_chain(book, falls, manner, one, other)
                    self.assertEqual(told, ending[0] if ending else None)

    def test_refusals_in_their_order(self):
        book, falls, unlike = Book(2, 2, [(0, 0), (0, 1)]), Falls(2, [(0,)]), Falls(3, [(0,)])
        for name, *more in BOOK_CALLS:
            call = getattr(linking, name)
            self.assertEqual(error_of(call, book, unlike, "no", *more), ("UnlikeHouses",))
            for manner in (None, "no", ["sure"], True):
                self.assertEqual(error_of(call, book, falls, manner, *more), ("BadManner", manner))
        for wrong in ((1, 1), (0, True), (False, 0), (0,), None, "00", {0, 1}, [(0, 0)]):
            self.assertEqual(error_of(linking.group_of, book, falls, "sure", wrong), ("NotInBook", wrong))
            for other in ((0, 1), (7, 7)):
                told = error_of(linking.least_chain, book, falls, "sure", wrong, other)
                self.assertEqual(told, ("NotInBook", wrong))
            self.assertEqual(error_of(linking.least_chain, book, falls, "sure", (0, 0), wrong), ("NotInBook", wrong))
        self.assertEqual(linking.linked_groups(Book(2, 2, []), falls, "sure"), ())
        self.assertEqual(linking.least_chain(book, falls, "sure", (0, 1), (0, 1)), ((0, 1),))


def tree_fault_by(let, n, manner, book, tree):
    if not isinstance(tree, (list, tuple)) or not tree:
        return "empty", 0
    inputs = []
    for index, couple in enumerate(tree):
        if not isinstance(couple, (list, tuple)) or len(couple) != 2:
            return "couple", index
        entry, parent = couple
        if not (isinstance(entry, (list, tuple)) and any(list(entry) == list(other) for other in book.inputs)
                and all(type(value) is int for value in entry)):
            return "input", index
        entry = tuple(entry)
        if entry in inputs:
            return "twice", index
        if (index == 0) != (parent is None) or (index > 0 and (type(parent) is not int or not 0 <= parent < index)):
            return "parent", index
        if index > 0 and not near_by(let, n, manner, entry, inputs[parent]):
            return "apart", index
        inputs.append(entry)
    return None


def drawn_tree(drawn, let, n, manner, group):
    """A right tree of some inputs of a group, in any order that keeps parents ahead."""
    entries = [drawn.choice(group)]
    couples = [(entries[0], None)]
    for _ in range(drawn.randint(0, len(group) * 2)):
        at = drawn.randrange(len(entries))
        free = [other for other in group if other not in entries and near_by(let, n, manner, entries[at], other)]
        if free:
            entries.append(drawn.choice(free))
            couples.append((entries[-1], at))
    return couples


SPOILT = [None, 5, "ab", {}, (), (1,), [1, 2, 3], (None, None), ((9, 9), None), ("00", None), (None, 0)]


def spoilt_tree(drawn, book, tree):
    tree = [list(couple) for couple in tree]
    for _ in range(drawn.randint(1, 2)):
        at = drawn.randrange(len(tree))
        how = drawn.randrange(6)
        if how == 0:
            tree[at] = drawn.choice(SPOILT)
        elif isinstance(tree[at], list) and len(tree[at]) == 2 and how == 1:
            tree[at][1] = drawn.choice([None, 0, at, at + 1, -1, True, False, "0", 0.0, (0,)])
        elif isinstance(tree[at], list) and len(tree[at]) == 2 and how == 2:
            tree[at][0] = list(drawn.choice(inputs_of(book.n, book.m)))
        elif isinstance(tree[at], list) and len(tree[at]) == 2 and how == 3:
            tree[at][0] = drawn.choice([None, "00", (0,), (True,) * book.n, (False,) * book.n, {0: 0}])
        elif how == 4:
            tree.insert(drawn.randrange(len(tree)), tree[at])
        else:
            del tree[at]
            if not tree:
                return tree
    return tree


class TestJudges(unittest.TestCase):
    def test_tree_fault_at_right_and_spoilt_trees(self):
        drawn = random.Random(31)
        told = set()
        for book, falls in worlds(20, 12, 23):
            let = let_by(book.n, falls.lots)
            for manner in MANNERS:
                for group in groups_by(let, book.n, manner, book.inputs)[:3]:
                    tree = drawn_tree(drawn, let, book.n, manner, group)
                    as_lists = [[list(entry), parent] for entry, parent in tree]
                    for right in (tree, tuple(tree), as_lists):
                        self.assertIsNone(linking.tree_fault(book, falls, manner, right))
                    for _ in range(6):
                        wrong = spoilt_tree(drawn, book, tree)
                        kept = repr(wrong)
                        fault = linking.tree_fault(book, falls, manner, wrong)
                        self.assertEqual(fault, tree_fault_by(let, book.n, manner, book, wrong), (wrong, manner))
                        self.assertEqual(repr(wrong), kept)
                        told.add(fault and fault[0])
        self.assertEqual(told, {None, "empty", "couple", "input", "twice", "parent", "apart"})

    def test_no_tree_at_all(self):
        book, falls = Book(2, 2, inputs_of(2, 2)), Falls(2, [(0,)])
        for tree in (*NO_SEQUENCES, (), []):
            self.assertEqual(linking.tree_fault(book, falls, "sure", tree), ("empty", 0))

    def test_two_faults_in_one_couple(self):
        book, falls = Book(2, 2, inputs_of(2, 2)), Falls(2, [(0,)])
        for couple, word in ((((9, 9), 5), "input"), (((0, 0), 5), "twice"), (((1, 1), 5), "parent"),
                             (((1, 1), 0), "apart"), (((0, 0),), "couple"), (((1, 0), True), "parent"),
                             (((1, 0), None), "parent")):
            tree = [((0, 0), None), couple, None]
            self.assertEqual(linking.tree_fault(book, falls, "sure", tree), (word, 1))
        self.assertEqual(linking.tree_fault(book, falls, "sure", [((0, 0), 0)]), ("parent", 0))

    def groups_fault_by(self, let, book, manner, groups):
        earlier = []
        for index, tree in enumerate(groups):
            if tree_fault_by(let, book.n, manner, book, tree) is not None:
                return "tree", index
            inputs = [tuple(couple[0]) for couple in tree]
            if set(inputs) & set(earlier):
                return "twice", index
            if any(near_by(let, book.n, manner, one, other) for one in inputs for other in earlier):
                return "open", index
            earlier += inputs
        return None if len(earlier) == len(book) else ("left", len(groups))

    def test_groups_fault_at_right_and_spoilt_groups(self):
        drawn = random.Random(32)
        told = set()
        for book, falls in worlds(16, 14, 24):
            let = let_by(book.n, falls.lots)
            for manner in MANNERS:
                right = list(linking.linked_groups(book, falls, manner))
                for _ in range(8):
                    groups = list(right)
                    drawn.shuffle(groups)
                    self.assertIsNone(linking.groups_fault(book, falls, manner, groups))
                    for _ in range(drawn.randint(1, 2) if groups else 0):
                        self.spoil_groups(drawn, book, groups)
                    fault = linking.groups_fault(book, falls, manner, groups)
                    self.assertEqual(fault, self.groups_fault_by(let, book, manner, groups))
                    told.add(fault and fault[0])
        self.assertEqual(told, {None, "tree", "twice", "open", "left"})

    def spoil_groups(self, drawn, book, groups):
        if not groups:
            return
        at, how = drawn.randrange(len(groups)), drawn.randrange(5)
        if how == 0:
            del groups[at]
        elif how == 1:
            groups.insert(at, drawn.choice(groups))
        elif how == 2:
            groups[at] = spoilt_tree(drawn, book, [c if isinstance(c, (list, tuple)) else [c] for c in groups[at]]
                                     or [((0,) * book.n, None)])
        elif how == 3 and len(groups[at]) > 1:
            groups[at] = groups[at][:-1]
        else:
            groups.append(((drawn.choice(inputs_of(book.n, book.m)), None),))

    def test_groups_of_an_empty_book(self):
        book, falls = Book(2, 2, []), Falls(2, [(0,)])
        self.assertIsNone(linking.groups_fault(book, falls, "sure", ()))
        self.assertIsNone(linking.groups_fault(book, falls, "sure", []))
        self.assertEqual(linking.groups_fault(book, falls, "sure", [()]), ("tree", 0))
        self.assertEqual(linking.groups_fault(Book(2, 2, [(0, 0)]), falls, "sure", []), ("left", 0))


class TestAllInputs(unittest.TestCase):
    def test_linked_exactly_if_alike_at_sure_houses(self):
        for n, m in [(2, 2), (2, 3), (3, 2), (3, 3), (4, 2), (5, 2)]:
            for lots in some_families(n, 25, 6):
                falls = Falls(n, lots)
                book = Book(n, m, inputs_of(n, m))
                shown = {}
                for entry in book.inputs:
                    shown.setdefault(tuple(entry[house] for house in falls.sure), []).append(entry)
                for manner in ("sure", "cells"):
                    told = [sorted(entry for entry, parent in tree) for tree in linking.linked_groups(book, falls, manner)]
                    self.assertEqual(sorted(told), sorted(shown.values()))
                    for group in told:
                        fitting = fitting_values(falls, manner, group)
                        if falls.sure:
                            self.assertTrue({group[0][house] for house in falls.sure} <= set(fitting))
                        else:
                            self.assertEqual(fitting, ())

    def test_books_of_firm_greatest_and_firm_first(self):
        for n, m in [(2, 2), (3, 2), (3, 3), (4, 2)]:
            for lots in some_families(n, 25, 7):
                falls = Falls(n, lots)
                for rule in (("firm greatest",), ("firm first", (m - 1, 0)), ("firm first", tuple(range(m)))):
                    book = book_of(falls, m, rule)
                    for manner in ("sure", "cells"):
                        for tree in linking.linked_groups(book, falls, manner):
                            group = [entry for entry, parent in tree]
                            self.assertTrue(fitting_values(falls, manner, group))


if __name__ == "__main__":
    unittest.main()
