"""The names, arguments and places of the interface, and that nothing that is passed in is changed."""

import copy
import importlib
import inspect
import random
import unittest

from firmvalues.books import Book
from firmvalues.falls import Falls
from firmvalues.outcomes import Clash, Outcomes, decide
from firmvalues.tables import HouseTable
from reckon import MANNERS, worlds

FUNCTIONS = {
    "inputs": """is_whole(thing, low=None, high=None) check_entry(houses, values, entry) check_view(houses, values, view)
        all_inputs(houses, values) each_view(houses, values) differing(one, other) goes_on(view, entry)
        join_views(one, other) view_within(one, other) heard_houses(view) unheard_houses(view) shown_view(entry, lot)
        check_leading(houses, values, order, names) led_entry(entry, order, names)""",
    "falls": "check_lot(houses, lot) lot_within(one, other) lots_of_size(houses, size) falls_within(one, other)",
    "datatext": """is_word(thing) check_data(data) data_text(data) read_data(text) data_at(data, path)
        data_with(data, path, part) depth_of(data) span_of(text, path) path_at(text, at) text_with(text, path, part)""",
    "foldtext": "folded_text(data, width) greatest_width(text)",
    "firmness": """check_manner(manner) places_of(entry, value) is_firm(falls, entry, value) firm_values(falls, entry)
        hiding_lot(falls, entry, value) fits(falls, manner, entry, value) fitting_values(falls, manner, entries)
        first_unfit(falls, manner, entries, value)""",
    "rules": "check_rule(houses, values, rule) rule_holds(falls, values, rule, entry)",
    "books": """book_of(falls, values, rule) book_within(one, other) joined_books(one, other) shared_book(one, other)
        book_less(one, other) opposite_book(book)""",
    "linking": """are_neighbours(falls, one, other) neighbours_of(book, falls, entry) is_split(falls, manner)
        linked_groups(book, falls, manner) group_of(book, falls, manner, entry)
        least_chain(book, falls, manner, one, other) tree_fault(book, falls, manner, tree)
        groups_fault(book, falls, manner, groups)""",
    "faces": "each_face(book, falls) beside_books(one, other) beside_falls(one, other)",
    "outcomes": """decide(book, falls, manner, order=None) count_ways(book, falls, manner)
        outcomes_at(book, falls, manner, number) each_way(book, falls, manner) trimmed_clash(clash)""",
    "judging": """judge_outcomes(book, falls, manner, told) judge_clash(book, falls, clash)
        number_of_way(book, falls, manner, told)""",
    "shaping": """grown_book(book, falls, manner, within=None) judge_greatest(book, falls, manner, within=None)
        widened_falls(book, falls, manner) judge_widest(book, falls, manner) greatest_count(book, manner)
        find_bridges(book, falls, manner) restricted_book(book, view)""",
    "tables": """other_rows(houses, states) dense_table(houses, states, start, rows)
        table_of(houses, states, start, rule) check_program(program) led_program(program, order, names)""",
}
CLASSES = {
    "falls": {"Falls(houses, lots)": """lets(self, lot) is_quorum(self, lot) each_lot(self) with_lot(self, lot)
        led(self, order) at_most(houses, count)"""},
    "books": {"Book(houses, values, inputs)": """going_on(self, view) first_going_on(self, view)
        with_entry(self, entry) without_entry(self, entry)"""},
    "outcomes": {"Outcomes(inputs, told)": "value_of(self, entry) cut_to(self, book)",
                 "Clash(manner, tree, fails)": ""},
    "tables": {"HouseTable(houses, states, start, moves=())": "next_move(self, state, others)"},
}
GENERATORS = ("each_view", "each_lot", "each_face", "each_way", "other_rows")


def listed(text):
    return [part.strip() + ")" for part in " ".join(text.split()).split(")")[:-1]]


def shown(name, call):
    return name + str(inspect.signature(call))


class TestInterface(unittest.TestCase):
    def test_functions(self):
        for file, text in FUNCTIONS.items():
            module = importlib.import_module("firmvalues." + file)
            for line in listed(text):
                call = getattr(module, line.split("(")[0])
                self.assertEqual(shown(call.__name__, call), line)
                self.assertEqual(call.__module__, module.__name__)
                self.assertEqual(inspect.isgeneratorfunction(call), call.__name__ in GENERATORS)

    def test_classes_and_their_methods(self):
        for file, classes in CLASSES.items():
            module = importlib.import_module("firmvalues." + file)
            for head, methods in classes.items():
                kind = getattr(module, head.split("(")[0])
                self.assertEqual(shown(kind.__name__, kind), head)
                self.assertEqual(kind.__module__, module.__name__)
                self.assertIn("__eq__", vars(kind))
                for line in listed(methods):
                    name = line.split("(")[0]
                    self.assertIn(name, vars(kind))
                    call = inspect.getattr_static(kind, name)
                    call = call.__func__ if isinstance(call, staticmethod) else call
                    self.assertEqual(shown(name, call), line)
                    self.assertEqual(inspect.isgeneratorfunction(call), name in GENERATORS)
        self.assertIsInstance(vars(Falls)["at_most"], staticmethod)
        for name in ("sure", "covering"):
            self.assertIsInstance(vars(Falls)[name], property)

    def test_attributes_are_set_when_an_object_is_created(self):
        for thing, names in ((Falls(2, []), "n lots"), (Book(2, 2, []), "n m inputs"), (Outcomes((), ()), "inputs told"),
                             (Clash("sure", (), ()), "manner tree fails"),
                             (HouseTable(2, 1, [0]), "n m states start moves")):
            self.assertLessEqual(set(names.split()), set(vars(thing)))


class TestNothingIsChanged(unittest.TestCase):
    def test_books_and_families_stay_as_they_are(self):
        drawn = random.Random(1)
        for book, falls in worlds(10, 2, 81):
            kept = copy.deepcopy((vars(book), vars(falls)))
            for manner in MANNERS:
                decided = decide(book, falls, manner)
                held = copy.deepcopy(vars(decided))
                self.call_all(drawn, book, falls, manner, decided)
                self.assertEqual(vars(decided), held)
            self.assertEqual((vars(book), vars(falls)), kept)

    def call_all(self, drawn, book, falls, manner, decided):
        """Calls what takes a book and a family with things of all kinds; errors change nothing either."""
        entry = drawn.choice(book.inputs) if len(book) else (0,) * book.n
        things = {"book": book, "falls": falls, "manner": manner, "order": None, "entry": entry, "one": entry,
                  "other": entry, "tree": getattr(decided, "tree", ()), "groups": (), "number": 0,
                  "told": getattr(decided, "told", ()), "clash": decided, "within": book, "view": entry}
        for file in ("linking", "faces", "outcomes", "judging", "shaping"):
            module = importlib.import_module("firmvalues." + file)
            for line in listed(FUNCTIONS[file]):
                call = getattr(module, line.split("(")[0])
                names = list(inspect.signature(call).parameters)
                if names[0] != "book" or ("clash" in names and not isinstance(decided, Clash)):
                    continue
                try:
                    told = call(*[things[name] for name in names])
                    if inspect.isgenerator(told):
                        next(told, None)
                except ValueError:
                    pass


if __name__ == "__main__":
    unittest.main()
