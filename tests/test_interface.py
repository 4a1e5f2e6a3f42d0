"""The names, arguments and places of the interface, and that nothing that is passed in is changed."""

import copy
import importlib
import inspect
import random
import unittest

from firmvalues.books import Book
from firmvalues.breaking import Broken
from firmvalues.cellruns import CellRun
from firmvalues.calm import Calm
from firmvalues.cells import Cells
from firmvalues.collects import Collector
from firmvalues.datatext import data_text
from firmvalues.desk import Desk, Trial, begun_page
from firmvalues.disktext import disk_text, net_text
from firmvalues.falls import Falls
from firmvalues.foe import Onward, Rounds
from firmvalues.keepers import Disk
from firmvalues.letters import Letter
from firmvalues.nets import Net, after_deeds
from firmvalues.outcomes import Clash, Outcomes, decide
from firmvalues.registers import Commands
from firmvalues.service import Service, after_service_course, begun_service
from firmvalues.servicetext import service_text
from firmvalues.silence import Settled
from firmvalues.slots import Agenda, Stuck, book_behind, outcomes_behind
from firmvalues.splitting import PlanBreak, SplitRun
from firmvalues.stories import desk_from
from firmvalues.tables import HouseTable
from firmvalues.valence import Outlook
from firmvalues.verdicts import Endless, Unlike, Unproposed
from programs import KINDS, drawn_program
from reckon import MANNERS, inputs_of, worlds

FUNCTIONS = {
    "inputs": """is_whole(thing, low=None, high=None) check_entry(houses, values, entry) check_view(houses, values, view)
        all_inputs(houses, values) each_view(houses, values) differing(one, other) goes_on(view, entry)
        join_views(one, other) view_within(one, other) heard_houses(view) unheard_houses(view) shown_view(entry, lot)
        check_leading(houses, values, order, names) led_entry(entry, order, names)""",
    "falls": "check_lot(houses, lot) lot_within(one, other) lots_of_size(houses, size) falls_within(one, other)",
    "datatext": """is_word(thing) check_data(data) data_text(data) read_data(text) data_at(data, path)
        data_with(data, path, part) depth_of(data) span_of(text, path) path_at(text, at) text_with(text, path, part)""",
    "foldtext": "folded_text(data, width) greatest_width(text)",
    "firmness": """check_manner(manner) places_of(entry, value) is_firm(falls, entry, value) firm_values(falls, entry)
        hiding_lot(falls, entry, value) fits(falls, manner, entry, value) fitting_values(falls, manner, entries)
        first_unfit(falls, manner, entries, value)""",
    "rules": "check_rule(houses, values, rule) rule_holds(falls, values, rule, entry)",
    "books": """book_of(falls, values, rule) book_within(one, other) joined_books(one, other) shared_book(one, other)
        book_less(one, other) opposite_book(book)""",
    "linking": """are_neighbours(falls, one, other) neighbours_of(book, falls, entry) is_split(falls, manner)
        linked_groups(book, falls, manner) group_of(book, falls, manner, entry)
        least_chain(book, falls, manner, one, other) tree_fault(book, falls, manner, tree)
        groups_fault(book, falls, manner, groups)""",
    "faces": "each_face(book, falls) beside_books(one, other) beside_falls(one, other)",
    "outcomes": """decide(book, falls, manner, order=None) count_ways(book, falls, manner)
        outcomes_at(book, falls, manner, number) each_way(book, falls, manner) trimmed_clash(clash)""",
    "judging": """judge_outcomes(book, falls, manner, told) judge_clash(book, falls, clash)
        number_of_way(book, falls, manner, told)""",
    "shaping": """grown_book(book, falls, manner, within=None) judge_greatest(book, falls, manner, within=None)
        widened_falls(book, falls, manner) judge_widest(book, falls, manner) greatest_count(book, manner)
        find_bridges(book, falls, manner) restricted_book(book, view)""",
    "tables": """other_rows(houses, states) dense_table(houses, states, start, rows)
        table_of(houses, states, start, rule) check_program(program) led_program(program, order, names)""",
    "standings": """first_standing(program, entry) standing_after(program, standing, house)
        trail_of(program, standing, run) last_standing(program, standing, run) steppers_of(standing)
        decided_by(standing) told_in(standing) cells_beside(standing, house) unlike_seats(one, other)
        check_standing(program, standing)""",
    "graph": """reach(program, entry, *, most=20000) reach_from(program, standing, *, most=20000)
        led_from(graph, number) tied_groups(graph) moving_in(graph, group) told_ahead(graph)
        told_values(program, entry, *, most=20000)""",
    "verdicts": """unsafe_at(graph, entry) endless_at(graph, entry, falls)
        judge_program(program, book, falls, manner, *, most=20000) fault_error(program, book, falls, manner, fault)""",
    "alike": """alike_off(one, other, lot) both_orders(program, standing, house, second)
        carry_run(program, entry, run, other)""",
    "foe": """go_round(program, standing, lot) foes_step(outlook, falls, standing, house)
        endless_by_foe(outlook, falls)""",
    "silence": "silent_run(program, falls, entry, lot) unheard_run(program, falls, entry, lot, other)",
    "splitting": """exchange_values(plan, entry, orders) plan_values(plan, entry, house)
        order_for(plan, entry, house, value) silent_order(houses, lot, house)
        plan_fault(plan, book, falls, manner, broken) break_plan(plan, book, falls, clash)
        split_run(plan, falls, one, other)""",
    "breaking": "break_program(program, book, falls, clash) outcomes_or_break(program, book, falls, manner)",
    "deciders": """settled_values(book, outcomes, view) first_view(book, outcomes, view)
        unlike_couple(book, outcomes, view) open_view(book, falls, outcomes, view)
        told_at(book, falls, outcomes, manner, view) earliest_lots(book, outcomes, entry)
        earliest_plan(book, falls, outcomes, manner) judge_plan(book, falls, outcomes, manner, plan)
        sooner_run(book, outcomes, view, value)""",
    "compiled": "plan_program(houses, values, plan) compiled_program(book, falls, outcomes, manner)",
    "cellruns": """cell_run_of(book, falls, outcomes, manner, entry, course) twin_of(run) finished_run(run)""",
    "letters": "check_deed(houses, values, deed)",
    "keepers": """blank_disk(houses) disk_with_value(disk, house, value) disk_with_letter(disk, letter)
        keepers_of(disk, house) looked_disk(disk, house, book, falls, outcomes, manner)""",
    "nets": """after_deed(net, deed) after_deeds(net, deeds) net_steps(net, deeds)
        proposed_net(book, falls, outcomes, manner, view)""",
    "disktext": """disk_text(disk) read_disk(houses, values, text) net_text(net)
        read_net(book, falls, outcomes, manner, text)""",
    "slowly": "all_awake(net) slow_course(net, deeds) judge_slow(net, deeds, slow)",
    "calm": "calm_round(net) calm_end(net)",
    "waits": "waits_for(net, house)",
    "parted": "parted_course(falls, one, other)",
    "slots": """check_slot_rule(houses, values, slot, rule) plain_rule(rule, log) check_log(agenda, log)
        book_behind(agenda, log) outcomes_behind(agenda, log) next_values(agenda, log) is_possible(agenda, log)
        each_possible_log(agenda) each_stuck_log(agenda) is_sound(agenda) first_stuck(agenda) entries_for(agenda, log)""",
    "registers": "folded_state(commands, log) states_along(commands, log)",
    "service": """begun_service(agenda) log_of_house(service, house) all_logs(service) longest_log(service)
        is_finished(service) check_service_deed(agenda, deed) after_service_deed(service, deed)
        after_service_course(service, course) each_service(service, course) calm_service(service)
        read_at(service, commands, house)""",
    "servicetext": "service_text(service) read_service(agenda, text)",
    "desk": "begun_page(houses, values) after_desk_deed(page, deed)",
    "stories": """desk_from(houses, values, course) straight_course(course) desk_from_text(houses, values, text)""",
}
CLASSES = {
    "falls": {"Falls(houses, lots)": """lets(self, lot) is_quorum(self, lot) each_lot(self) with_lot(self, lot)
        led(self, order) at_most(houses, count)"""},
    "books": {"Book(houses, values, inputs)": """going_on(self, view) first_going_on(self, view)
        with_entry(self, entry) without_entry(self, entry)"""},
    "outcomes": {"Outcomes(inputs, told)": "value_of(self, entry) cut_to(self, book)",
                 "Clash(manner, tree, fails)": ""},
    "tables": {"HouseTable(houses, states, start, moves=())": "next_move(self, state, others)"},
    "verdicts": {"Unlike(entry, run)": "", "Unproposed(entry, run)": "", "Endless(entry, run, loop, fallen)": ""},
    "foe": {"Rounds(run, loop)": "", "Onward(run)": ""},
    "silence": {"Settled(entry, run, told)": ""},
    "splitting": {"PlanBreak(what, entry, orders, lot)": "", "SplitRun(entry, orders, told)": ""},
    "breaking": {"Broken(link, fault)": ""},
    "letters": {"Letter(sender, receiver, view, told)": ""},
    "keepers": {"Disk(view, heard, stable, told)": ""},
    "nets": {"Net(book, falls, outcomes, manner)": ""},
    "calm": {"Calm(net, rounds, sent)": ""},
    "slots": {"Agenda(falls, values, manner, rules)": "", "Stuck(log, clash)": ""},
    "registers": {"Commands(start, rows)": ""},
    "service": {"Service(agenda, awake, nets, clash)": ""},
    "desk": {"Page(n, m, falls, manner, rules, commands, service, program, standing, text)": "",
             "Trial(answers, refused)": ""},
}
NOT_COMPARED = {
    "graph": {"Graph": "number_of(self, standing) run_to(self, number)"},
    "valence": {"Outlook(program, entry, *, most=20000)": """values_at(self, standing) is_two_way(self, standing)
        two_way_standings(self) way_to(self, standing) way_to_value(self, standing, value) narrowing(self, run)
        sealed_after(self, run)"""},
    "cells": {"Cells(houses)": "write(self, house, value) read(self, house)"},
    "collects": {"Collector(houses, *, own=None)": "read_from(self, cells) stable_view(self) forget(self)"},
    "cellruns": {"CellRun(book, falls, outcomes, manner, entry)": """next_of(self, house) heard_view(self, house)
        waiting_for(self, house) do_deed(self, deed) step(self, house) fall(self, house) wake(self, house)"""},
    "desk": {"Desk(houses, values)": "act(self, deed) trial(self, course)"},
}
PROPERTIES = {Falls: "sure covering", Cells: "shown", CellRun: "written decisions grounds",
              Net: "told_values awake_houses"}
COUNTED = {Book: True, Net: True, Agenda: False}
GENERATORS = ("each_view", "each_lot", "each_face", "each_way", "other_rows", "net_steps", "each_possible_log",
              "each_stuck_log", "each_service")


PROGRAM_FILES = ("standings", "graph", "verdicts", "alike", "foe", "silence", "splitting", "breaking", "deciders",
                 "compiled", "cellruns")
NET_FILES = ("letters", "keepers", "nets", "disktext", "slowly", "calm", "waits", "parted", "slots", "registers", "service",
             "servicetext", "desk", "stories")


def listed(text):
    return [part.strip() + ")" for part in " ".join(text.split()).split(")")[:-1]]


def shown(name, call):
    return name + str(inspect.signature(call))


class TestInterface(unittest.TestCase):
    def test_functions(self):
        for file, text in FUNCTIONS.items():
            module = importlib.import_module("firmvalues." + file)
            for line in listed(text):
                call = getattr(module, line.split("(")[0])
                self.assertEqual(shown(call.__name__, call), line)
                self.assertEqual(call.__module__, module.__name__)
                self.assertEqual(inspect.isgeneratorfunction(call), call.__name__ in GENERATORS)

    def test_classes_and_their_methods(self):
        for file, head, methods in [(file, head, methods) for listing in (CLASSES, NOT_COMPARED)
                                    for file, classes in listing.items() for head, methods in classes.items()]:
            module = importlib.import_module("firmvalues." + file)
            kind = getattr(module, head.split("(")[0])
            if "(" in head:
                self.assertEqual(shown(kind.__name__, kind), head)
            self.assertEqual(kind.__module__, module.__name__)
            self.assertEqual("__eq__" in vars(kind), file in CLASSES and head in CLASSES[file])
            self.assertEqual("__len__" in vars(kind), kind in COUNTED)
            self.assertEqual("__iter__" in vars(kind), COUNTED.get(kind, False))
            for line in listed(methods):
                name = line.split("(")[0]
                self.assertIn(name, vars(kind))
                call = inspect.getattr_static(kind, name)
                call = call.__func__ if isinstance(call, staticmethod) else call
                self.assertEqual(shown(name, call), line)
                self.assertEqual(inspect.isgeneratorfunction(call), name in GENERATORS)
        self.assertIsInstance(vars(Falls)["at_most"], staticmethod)
        for kind, names in PROPERTIES.items():
            for name in names.split():
                self.assertIsInstance(vars(kind)[name], property)

    def test_attributes_are_set_when_an_object_is_created(self):
        book, falls = Book(2, 2, [(0, 0)]), Falls(2, [])
        table = HouseTable(2, 1, [0])
        outlook = Outlook([table, table], (0, 0))
        for thing, names in ((falls, "n lots"), (book, "n m inputs"), (Outcomes((), ()), "inputs told"),
                             (Clash("sure", (), ()), "manner tree fails"), (table, "n m states start moves"),
                             (outlook, "program entry graph"), (outlook.graph, "standings arcs parents"),
                             (Unlike((), ()), "entry run"), (Unproposed((), ()), "entry run"),
                             (Endless((), (), (), ()), "entry run loop fallen"), (Rounds((), ()), "run loop"),
                             (Onward(()), "run"), (Settled((), (), ()), "entry run told"),
                             (PlanBreak("waits", (), (), ()), "what entry orders lot"),
                             (SplitRun((), (), ()), "entry orders told"), (Broken((), None), "link fault"),
                             (Cells(2), "n"), (Collector(2), "n own turn so_far full"),
                             (CellRun(book, falls, decide(book, falls, "cells"), "cells", (0, 0)),
                              "n book falls outcomes manner entry course fallen"),
                             (Letter(0, 1, (0, 0), None), "sender receiver view told"),
                             (Disk((0, 0), (None, None), None, None), "view heard stable told"),
                             (Net(book, falls, decide(book, falls, "letters"), "letters"),
                              "book falls outcomes manner disks memories way sent"),
                             (Calm(None, 1, 0), "net rounds sent"), (Stuck((), None), "log clash"),
                             (Agenda(falls, 2, "sure", [["rule", ["all"]]]), "falls n m manner rules"),
                             (Commands([0], [["keep"]]), "start rows"),
                             (Service(None, (), (), None), "agenda awake nets clash"),
                             (begun_page(2, 2), "n m falls manner rules commands service program standing text"),
                             (Trial((), None), "answers refused"), (Desk(2, 2), "page done")):
            self.assertLessEqual(set(names.split()), set(vars(thing)))


class TestNothingIsChanged(unittest.TestCase):
    def test_books_and_families_stay_as_they_are(self):
        drawn = random.Random(1)
        for book, falls in worlds(10, 2, 81):
            kept = copy.deepcopy((vars(book), vars(falls)))
            for manner in MANNERS:
                decided = decide(book, falls, manner)
                held = copy.deepcopy(vars(decided))
                self.call_all(drawn, book, falls, manner, decided)
                self.assertEqual(vars(decided), held)
            self.assertEqual((vars(book), vars(falls)), kept)

    def call_all(self, drawn, book, falls, manner, decided):
        """Calls what takes a book and a family with things of all kinds; errors change nothing either."""
        entry = drawn.choice(book.inputs) if len(book) else (0,) * book.n
        things = {"book": book, "falls": falls, "manner": manner, "order": None, "entry": entry, "one": entry,
                  "other": entry, "tree": getattr(decided, "tree", ()), "groups": (), "number": 0,
                  "told": getattr(decided, "told", ()), "clash": decided, "within": book, "view": entry}
        for file in ("linking", "faces", "outcomes", "judging", "shaping"):
            module = importlib.import_module("firmvalues." + file)
            for line in listed(FUNCTIONS[file]):
                call = getattr(module, line.split("(")[0])
                names = list(inspect.signature(call).parameters)
                if names[0] != "book" or ("clash" in names and not isinstance(decided, Clash)):
                    continue
                try:
                    told = call(*[things[name] for name in names])
                    if inspect.isgenerator(told):
                        next(told, None)
                except ValueError:
                    pass

    def test_programs_plans_and_runs_stay_as_they_are(self):
        drawn = random.Random(2)
        called = set()
        for n, kind in [(n, kind) for n in (2, 3) for kind in KINDS for _ in range(2)]:
            book, falls = Book(n, 2, inputs_of(n, 2)), Falls.at_most(n, 1)
            things = self.things_of(drawn, book, falls, drawn_program(drawn, n, 2, kind))
            kept = shape(things)
            for file in PROGRAM_FILES:
                for line in listed(FUNCTIONS[file]):
                    name = line.split("(")[0]
                    call = getattr(importlib.import_module("firmvalues." + file), name)
                    params = [param for param in inspect.signature(call).parameters if param != "most"]
                    own = {**things, **things["for"].get(name, {})}
                    try:
                        call(*[own[param] for param in params])
                        called.add(name)
                    except ValueError:
                        pass
                    self.assertEqual(shape(things), kept, name)
        names = {line.split("(")[0] for file in PROGRAM_FILES for line in listed(FUNCTIONS[file])}
        self.assertEqual(names - called, set())

    def things_of(self, drawn, book, falls, program):
        """Things for all parameters by their names, lists wherever a sequence may be one."""
        n, entry = book.n, [0, 1] + [1] * (book.n - 2)
        outlook = Outlook(program, entry)
        standings = [[list(seat) for seat in standing] for standing in outlook.graph.standings]
        decided = Book(n, 2, [tuple(entry)])
        outcomes, clash = decide(decided, falls, "sure"), decide(book, falls, "sure")
        plan = {tuple(drawn.choice([None, 0, 1]) for _ in range(n)): drawn.randrange(2) for _ in range(9)}
        two_way = outlook.two_way_standings()
        moving = [tuple(entry), [0], [0] + [1] * (n - 1)]
        over_decided = {"book": decided, "outcomes": outcomes, "view": tuple(entry), "value": 1, "entry": tuple(entry)}
        seats = {"one": standings[0], "other": standings[-1]}
        special = {name: over_decided for line in listed(FUNCTIONS["deciders"]) for name in [line.split("(")[0]]}
        stepped = CellRun(decided, falls, outcomes, "sure", entry)
        stepped.step(0)
        special.update(twin_of={"run": stepped}, finished_run={"run": stepped}, compiled_program=over_decided, alike_off=seats, unlike_seats=seats,
                       foes_step={"standing": two_way[0] if two_way else standings[0]},
                       carry_run={"run": [0, 0], "other": moving[2]}, unheard_run={"lot": [1], "other": [0, 0] + entry[2:]},
                       cell_run_of=over_decided, exchange_values={"entry": tuple(entry)}, silent_run={"lot": [0]})
        return {"for": special, "program": list(program), "entry": entry, "standing": standings[0], "run": [0, 1], "house": 0,
                "second": 1, "lot": [1, 0], "graph": outlook.graph, "number": 1, "group": [0, 1, 2], "book": book,
                "falls": falls, "manner": "sure", "fault": Endless(entry, [0], [1, 1], []), "outlook": outlook,
                "plan": plan, "orders": [[1]] + [[0]] * (n - 1), "value": 1, "houses": n, "values": 2,
                "broken": PlanBreak("unlike", entry, [[1]] + [[0]] * (n - 1), []), "clash": clash, "one": (0,) * n,
                "other": (1,) * n, "course": [["step", 0], ["fall", 1], ["wake", 1]], "outcomes": outcomes,
                "view": tuple(entry)}


    def test_nets_agendas_services_and_desks_stay_as_they_are(self):
        drawn = random.Random(3)
        called = set()
        for n, manner in [(n, manner) for n in (2, 3) for manner in ("sure", "letters") for _ in range(3)]:
            things = net_things(drawn, n, manner)
            kept = shape(things)
            for name, call in [(line.split("(")[0], getattr(importlib.import_module("firmvalues." + file), line.split("(")[0]))
                               for file in NET_FILES for line in listed(FUNCTIONS[file])]:
                own = {**things, **things["for"].get(name, {})}
                try:
                    told = call(*[own[param] for param in inspect.signature(call).parameters])
                    if inspect.isgenerator(told):
                        list(told)
                    called.add(name)
                except ValueError:
                    pass
                self.assertEqual(shape(things), kept, name)
            for desk in (things["desk"],):
                desk.trial(things["for"]["desk_from"]["course"])
                for deed in things["wrong deeds"]:
                    self.assertRaises(ValueError, desk.act, deed)
                self.assertEqual(shape(things), kept)
        names = {line.split("(")[0] for file in NET_FILES for line in listed(FUNCTIONS[file])}
        self.assertEqual(names - called, set())


def net_things(drawn, n, manner):
    """Things for all parameters of nets, agendas, services and desks, lists wherever a sequence may be one."""
    falls = Falls(n, drawn.choice([[[house] for house in range(n if n > 2 else 1)], [list(range(1, n))]]))
    rule = ["rule", ["firm greatest"]]
    agenda = Agenda(falls, 2, manner, [rule, ["choose", 0, [rule, ["keeps", 0]]]])
    book = book_behind(agenda, ())
    outcomes = outcomes_behind(agenda, ())
    entry = list(drawn.choice(book.inputs))
    deeds = [["propose", 0, entry[0]], ["write", 0], ["send", 0, 1], ["double", 0], ["hand", 0], ["propose", 1, entry[1]],
             ["write", 1], ["send", 1, 0]]
    net = after_deeds(Net(book, falls, outcomes, manner), deeds)
    slots = [["slot", 0, deed] for deed in deeds]
    service = after_service_course(begun_service(agenda), slots)
    story = [["falls", [list(lot) for lot in falls.lots]], ["manner", manner], ["slots", [rule, rule]], ["begin"],
             ["service", slots[0]], ["calm"], ["cut"], ["resume"], ["back"],
             ["program", [[1, [0, 0], [[0, [None] * (n - 1), ["done", 1]]]]] * n], ["entry", entry], ["step", 0]]
    desk = desk_from(n, 2, story)
    special = {"after_desk_deed": {"deed": ["service", ["stop", 0]], "page": desk_from(n, 2, story[:5]).page},
               "check_service_deed": {"deed": slots[0]}, "after_service_deed": {"deed": ["slot", 0, ["hand", 0]]},
               "check_slot_rule": {"rule": ["choose", 0, [rule, rule]]}, "plain_rule": {"rule": ["choose", 0, [rule, rule]]},
               "after_service_course": {"course": [["stop", 0], ["wake", 0]]}, "each_service": {"course": [["stop", 0]]},
               "desk_from": {"course": story}, "straight_course": {"course": story}, "read_disk": {"text": disk_text(net.disks[0])},
               "read_net": {"text": net_text(net)}, "desk_from_text": {"text": data_text(story)},
               "slow_course": {"net": Net(book, falls, outcomes, manner), "deeds": deeds + [["stop", 0]]},
               "book_behind": {"log": []}, "outcomes_behind": {"log": []}, "each_view": {"values": 2}}
    return {"for": special, "net": net, "deed": ["hand", 0], "deeds": [["stop", 0], ["wake", 0]], "slow": deeds[1:2],
            "disk": net.disks[0], "letter": Letter(1, 0, [None] + entry[1:], None), "house": 0, "houses": n, "values": 2,
            "value": 1, "book": book, "falls": falls, "outcomes": outcomes, "manner": manner, "view": [None] + entry[1:],
            "agenda": agenda, "log": [1], "slot": 1, "service": service, "page": desk.page, "desk": desk, "one": tuple(entry),
            "other": (0,) * n, "commands": Commands([1, 2], [["swap", 0, 1], ["keep"]]), "text": service_text(service),
            "wrong deeds": [["back", 1], [], ["falls", [[0, [1]]]], ["slots", [rule, []]], ["commands", [1], [["set"]]],
                            ["program", [[1]] * n], ["entry", [0, [0]]]]}


def shape(thing):
    """All that a thing holds, its kinds and its order, as a text."""
    if isinstance(thing, (list, tuple)):
        return type(thing).__name__ + "[" + ", ".join(shape(part) for part in thing) + "]"
    if isinstance(thing, dict):
        return "{" + ", ".join(shape(key) + ": " + shape(part) for key, part in thing.items()) + "}"
    if hasattr(thing, "__dict__"):
        return type(thing).__name__ + shape(vars(thing))
    return repr(thing)


if __name__ == "__main__":
    unittest.main()
