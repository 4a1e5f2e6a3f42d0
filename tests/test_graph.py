"""firmvalues.graph: points 8.1 to 8.3, against a second search over all runs."""

import random
import time
import unittest

from firmvalues import graph
from firmvalues.graph import reach, reach_from
from firmvalues.tables import HouseTable
from programs import SecondGraph, begin_by, counters, long_way, movers, some_programs, told_by
from reckon import NO_SEQUENCES, error_of, inputs_of

NO_NUMBERS = (True, False, None, -1, "0", 0.0, (0,), [0], {})


def as_lists(standing):
    return [list(seat) for seat in standing]


def drawn_standing(drawn, program):
    """A right standing, be it reached by a run or not."""
    seats = []
    for table in program:
        word, held, cell = drawn.choice(["write", "scan", "done"]), drawn.randrange(table.states), None
        if word == "write":
            cell = drawn.choice([None, drawn.randrange(table.states)])
        elif word == "scan":
            cell = held
        else:
            held, cell = drawn.randrange(table.m), drawn.randrange(table.states)
        seats.append((word, held, cell))
    return tuple(seats)


class TestReach(unittest.TestCase):
    def check(self, told, second):
        self.assertEqual(told.standings, tuple(second.order))
        numbers = {standing: number for number, standing in enumerate(second.order)}
        arcs = tuple(tuple((house, numbers[other]) for house, other in sorted(second.behind[standing].items()))
                     for standing in second.order)
        self.assertEqual(told.arcs, arcs)
        self.assertEqual((type(told.standings), type(told.arcs), type(told.parents)), (tuple,) * 3)
        for number, standing in enumerate(second.order):
            run = second.run[standing]
            self.assertEqual(told.run_to(number), run)
            self.assertEqual(told.number_of(standing), number)
            self.assertEqual(told.number_of(as_lists(standing)), number)
            if number:
                parent, house = told.parents[number]
                self.assertEqual((second.run[second.order[parent]], house), (run[:-1], run[-1]))
                self.assertLess(parent, number)
        self.assertIsNone(told.parents[0])

    def test_all_standings_from_an_input(self):
        drawn = random.Random(21)
        for program in some_programs(5, 22):
            for entry in drawn.choices(inputs_of(len(program), program[0].m), k=2):
                second = SecondGraph(program, begin_by(program, entry))
                self.check(reach(drawn.choice([list, tuple])(program), drawn.choice([list, tuple])(entry)), second)

    def test_all_standings_from_any_standing(self):
        drawn = random.Random(23)
        unreached = 0
        for program in some_programs(5, 24):
            for _ in range(3):
                standing = drawn_standing(drawn, program)
                second = SecondGraph(program, standing)
                self.check(reach_from(list(program), drawn.choice([as_lists, tuple])(standing)), second)
                unreached += all(standing not in SecondGraph(program, begin_by(program, entry)).run
                                 for entry in inputs_of(len(program), program[0].m)[:3])
        self.assertGreater(unreached, 30)

    def test_exactly_so_many_standings(self):
        drawn = random.Random(25)
        for program in some_programs(2, 26):
            entry = drawn.choice(inputs_of(len(program), program[0].m))
            for standing in (begin_by(program, entry), drawn_standing(drawn, program)):
                many = len(SecondGraph(program, standing).order)
                self.assertEqual(len(reach_from(program, standing, most=many).standings), many)
                for most in {many - 1, many // 2, 1} - {0, many}:
                    self.assertEqual(error_of(reach_from, program, standing, most=most), ("TooMany", most))
            many = len(SecondGraph(program, begin_by(program, entry)).order)
            self.assertEqual(len(reach(program, entry, most=many).standings), many)
            self.assertEqual(error_of(reach, program, entry, most=many - 1), ("TooMany", many - 1))
            self.assertEqual(graph.told_values(program, entry, most=many), graph.told_values(program, entry))
            self.assertEqual(error_of(graph.told_values, program, entry, most=many - 1), ("TooMany", many - 1))
        done = tuple(("done", 0, 0) for _ in range(2))
        program = (HouseTable(2, 1, [0]),) * 2
        self.assertEqual(reach_from(program, done, most=1).standings, (done,))
        for call in (reach, graph.told_values):
            self.assertRaises(TypeError, call, program, (0, 0), 5)

    def test_twenty_thousand_standings_and_more(self):
        begun = time.monotonic()
        told = reach(counters(3, 13), (0, 0, 0))
        self.assertEqual(len(told.standings), 27 ** 3)
        self.assertEqual(graph.told_ahead(told), ((),) * 27 ** 3)
        self.assertEqual(len(graph.tied_groups(told)), 8)
        self.assertEqual(len(graph.led_from(told, 0)), 27 ** 3)
        self.assertEqual(len(told.run_to(len(told.standings) - 1)), 3 * 26)
        self.assertEqual(error_of(reach, counters(3, 14), (0, 0, 0)), ("TooMany", 20000))
        self.assertEqual(error_of(graph.told_values, counters(3, 14), (0, 0, 0)), ("TooMany", 20000))
        self.assertEqual(len(reach(counters(3, 14), (0, 0, 0), most=30000).standings), 29 ** 3)
        self.assertLess(time.monotonic() - begun, 20)

    def test_what_is_refused_and_in_which_order(self):
        table = HouseTable(2, 2, [0, 1])
        right = (("write", 0, None), ("scan", 1, 1))
        for program, error in ((None, ("BadProgram", 0, "many")), ([table, 5], ("BadProgram", 1, "table"))):
            self.assertEqual(error_of(reach, program, None, most=1), error)
            self.assertEqual(error_of(graph.told_values, program, None, most=1), error)
            self.assertEqual(error_of(reach_from, program, None, most=1), error)
        program = [table, table]
        for call in (reach, graph.told_values):
            for entry in (*NO_SEQUENCES, (), (0,), (0, 0, 0)):
                self.assertEqual(error_of(call, program, entry, most=1), ("BadInput", "length", 0))
            for wrong in (*NO_NUMBERS, 2):
                self.assertEqual(error_of(call, program, (0, wrong), most=1), ("BadInput", "value", 1))
                self.assertEqual(error_of(call, program, (wrong, None), most=1), ("BadInput", "value", 0))
            self.assertEqual(error_of(call, program, (0, 1), most=1), ("TooMany", 1))
        for standing in (*NO_SEQUENCES, (), right[:1], right * 2):
            self.assertEqual(error_of(reach_from, program, standing, most=1), ("BadStanding", 0, "many"))
        for wrong, what in ((None, "seat"), ((None, 0, 0), "next"), (("scan", True, 1), "held"), (("scan", 0, 1), "cell")):
            for house in (0, 1):
                standing = (right[:house] + (wrong, None))[:2]
                self.assertEqual(error_of(reach_from, program, standing, most=1), ("BadStanding", house, what))
        self.assertEqual(error_of(reach_from, program, right, most=1), ("TooMany", 1))
        self.assertEqual(reach_from(program, as_lists(right)).standings[0], right)


class TestGraphs(unittest.TestCase):
    def test_numbers_of_what_is_not_there(self):
        program = (HouseTable(2, 2, [1, 1], [(1, (1,), ("done", 1))]),) * 2
        told = reach(program, (0, 0))
        for thing in (*NO_SEQUENCES, (), told.standings[0][:1], told.standings[0] * 2, (("done", 0, 1), ("done", 0, 1)),
                      (("write", 0, None), ("write", 0, None)), (("write", True, None), ("write", 1, None)),
                      (("scan", 1, True), ("write", 1, None)), (("write", 1, {}), ("write", 1, [])), [[], []],
                      ((["write"], 1, None), ("write", 1, None)), "ab", (("write", 1.0, None), ("write", 1, None))):
            self.assertIsNone(told.number_of(thing), thing)
        self.assertEqual(told.number_of([["write", 1, None], ("write", 1, None)]), 0)

    def test_numbers_that_are_none(self):
        program = (HouseTable(2, 1, [0, 0]),) * 2
        told = reach(program, (0, 1))
        many = len(told.standings)
        for wrong in (*NO_NUMBERS, many, many + 5, -many):
            self.assertEqual(error_of(told.run_to, wrong), ("NoStanding", wrong))
            self.assertEqual(error_of(graph.led_from, told, wrong), ("NoStanding", wrong))
        self.assertEqual(graph.led_from(told, many - 1)[-1], many - 1)

    def test_what_leads_where(self):
        drawn = random.Random(27)
        tied = 0
        for program in some_programs(5, 28):
            n = len(program)
            entry = drawn.choice(inputs_of(n, program[0].m))
            second = SecondGraph(program, begin_by(program, entry))
            told = reach(program, entry)
            numbers = {standing: number for number, standing in enumerate(second.order)}
            ahead = [{numbers[other] for other in second.led_from(standing)} for standing in second.order]
            groups = {}
            for number in range(len(ahead)):
                self.assertEqual(graph.led_from(told, number), tuple(sorted(ahead[number])))
                group = tuple(sorted(other for other in ahead[number] if number in ahead[other]))
                groups[group] = True
            self.assertEqual(graph.tied_groups(told), tuple(sorted(groups)))
            tied += sum(len(group) > 1 for group in groups)
            for group in groups:
                moving = {house for number in group for house, other in second.behind[second.order[number]].items()
                          if numbers[other] in group}
                self.assertEqual(graph.moving_in(told, group), tuple(sorted(moving)))
                self.assertEqual(graph.moving_in(told, list(group)), tuple(sorted(moving)))
            values = [{value for other in ahead[number] for value in told_by(second.order[other])}
                      for number in range(len(ahead))]
            self.assertEqual(graph.told_ahead(told), tuple(tuple(sorted(came)) for came in values))
            self.assertEqual(graph.told_values(list(program), list(entry)), tuple(sorted(values[0])))
        self.assertGreater(tied, 100)

    def test_groups_that_are_no_tied_ones(self):
        told = reach((HouseTable(2, 1, [0]),) * 2, (0, 0))
        self.assertEqual(graph.moving_in(told, ()), ())
        self.assertEqual(graph.moving_in(told, (0,)), ())
        self.assertEqual(graph.moving_in(told, range(len(told.standings))), (0, 1))

    def test_paths_of_thousands_of_steps(self):
        program = long_way()
        begun = time.monotonic()
        told = reach(program, (0, 0))
        second = SecondGraph(program, begin_by(program, (0, 0)))
        self.assertEqual(told.standings, tuple(second.order))
        runs = [told.run_to(number) for number in range(len(told.standings))]
        self.assertEqual(runs, [second.run[standing] for standing in second.order])
        self.assertGreater(max(len(run) for run in runs), 3000)
        self.assertEqual(graph.led_from(told, 0), tuple(range(len(runs))))
        ends = [number for number in range(len(runs)) if told_by(told.standings[number])]
        self.assertTrue(ends)
        self.assertEqual(graph.told_ahead(told), ((0,),) * len(runs))
        groups = graph.tied_groups(told)
        self.assertEqual(sorted(number for group in groups for number in group), list(range(len(runs))))
        self.assertEqual(groups, tuple(sorted(groups)))
        for group in groups:
            self.assertEqual(len({tuple(movers(told.standings[number])) for number in group}), 1)
        self.assertLess(time.monotonic() - begun, 30)


if __name__ == "__main__":
    unittest.main()
