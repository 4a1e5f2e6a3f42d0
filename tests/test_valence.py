"""firmvalues.valence: point 9.3, against all standings that each one leads to."""

import random
import time
import unittest

from firmvalues.graph import reach
from firmvalues.tables import HouseTable
from firmvalues.valence import Outlook
from programs import SecondGraph, begin_by, counters, movers, shortest_by, some_programs, step_by, told_by
from reckon import NO_SEQUENCES, error_of, inputs_of

NO_VALUES = (True, False, None, -1, "0", 9, 0.0, (0,))


def as_lists(standing):
    return [list(seat) for seat in standing]


class TestWhatCanCome(unittest.TestCase):
    def worlds(self, many, seed):
        drawn = random.Random(seed)
        for program in some_programs(many, seed):
            entry = drawn.choice(inputs_of(len(program), program[0].m))
            yield drawn, program, entry, SecondGraph(program, begin_by(program, entry))

    def test_attributes(self):
        for drawn, program, entry, second in self.worlds(2, 51):
            outlook = Outlook(list(program), list(entry))
            self.assertEqual((outlook.program, outlook.entry), (program, entry))
            self.assertEqual((type(outlook.program), type(outlook.entry)), (tuple, tuple))
            self.assertEqual(outlook.graph.standings, reach(program, entry).standings)
            self.assertEqual(Outlook(program, entry, most=len(second.order)).graph.arcs, outlook.graph.arcs)

    def test_every_standing(self):
        two_way = 0
        for drawn, program, entry, second in self.worlds(5, 52):
            outlook = Outlook(program, entry)
            wanted = []
            for standing in second.order:
                came = tuple(sorted(second.can_come(standing)))
                given = drawn.choice([as_lists, tuple])(standing)
                self.assertEqual(outlook.values_at(given), came)
                self.assertIs(outlook.is_two_way(given), len(came) > 1)
                self.assertEqual(outlook.way_to(given), second.run[standing])
                if len(came) > 1:
                    wanted.append(standing)
            for standing in drawn.sample(second.order, min(12, len(second.order))):
                for value in range(program[0].m):
                    run = shortest_by(second, standing, lambda other: value in told_by(other))
                    self.assertEqual(outlook.way_to_value(standing, value), run)
                for value in NO_VALUES:
                    self.assertIsNone(outlook.way_to_value(standing, value))
            self.assertEqual(outlook.two_way_standings(), tuple(wanted))
            two_way += len(wanted)
        self.assertGreater(two_way, 100)

    def test_runs(self):
        sealed = {None: 0}
        for drawn, program, entry, second in self.worlds(8, 53):
            outlook = Outlook(program, entry)
            ahead = second.all_ahead()
            for _ in range(3):
                standing, run, wanted = second.first, [], [tuple(sorted(ahead[second.first]))]
                for _ in range(drawn.randint(0, 12)):
                    if movers(standing):
                        run.append(drawn.choice(movers(standing)))
                        standing = step_by(program, standing, run[-1])
                        wanted.append(tuple(sorted(ahead[standing])))
                self.assertEqual(outlook.narrowing(run), tuple(wanted))
                self.assertEqual(outlook.narrowing(tuple(run)), tuple(wanted))
                for one, other in zip(wanted, wanted[1:]):
                    self.assertLessEqual(set(other), set(one))
                few = [steps for steps, values in enumerate(wanted) if len(values) < 2]
                self.assertEqual(outlook.sealed_after(run), few[0] if few else None)
                key = few[0] if few else None
                sealed[key] = sealed.get(key, 0) + 1
                for wrong in (True, None, -1, "0", len(program), [0], *set(range(len(program))) - set(movers(standing))):
                    for later in ([], [None], [0]):
                        self.assertEqual(error_of(outlook.narrowing, [*run, wrong, *later]), ("NoStep", wrong))
                        self.assertEqual(error_of(outlook.sealed_after, [*run, wrong, *later]), ("NoStep", wrong))
        self.assertGreater(sealed[None], 5)
        self.assertGreater(sum(many for steps, many in sealed.items() if steps), 10)

    def test_standings_that_are_not_reached(self):
        for drawn, program, entry, second in self.worlds(1, 54):
            outlook = Outlook(program, entry)
            first = second.first
            truth = (("write", True, None),) + first[1:]
            strange = (("done", 0, 5),) + first[1:]
            for wrong in (*NO_SEQUENCES, (), first[1:], first + first[:1], truth, strange, as_lists(strange)):
                for call in (outlook.values_at, outlook.is_two_way, outlook.way_to):
                    self.assertEqual(error_of(call, wrong), ("NotReached", wrong))
                self.assertEqual(error_of(outlook.way_to_value, wrong, None), ("NotReached", wrong))
            self.assertEqual(outlook.way_to(as_lists(first)), ())

    def test_what_reach_raises(self):
        table = HouseTable(2, 1, [0, 0])
        self.assertEqual(error_of(Outlook, None, None), ("BadProgram", 0, "many"))
        self.assertEqual(error_of(Outlook, [table, 0], None), ("BadProgram", 1, "table"))
        self.assertEqual(error_of(Outlook, [table, table], "00", most=1), ("BadInput", "length", 0))
        self.assertEqual(error_of(Outlook, [table, table], (0, True), most=1), ("BadInput", "value", 1))
        many = len(reach([table, table], (0, 1)).standings)
        self.assertEqual(error_of(Outlook, [table, table], (0, 1), most=many - 1), ("TooMany", many - 1))
        self.assertEqual(len(Outlook([table, table], (0, 1), most=many).graph.standings), many)
        self.assertEqual(error_of(Outlook, counters(3, 14), (0, 0, 0)), ("TooMany", 20000))
        self.assertRaises(TypeError, Outlook, [table, table], (0, 1), many)

    def test_little_time_at_twenty_thousand_standings(self):
        begun = time.monotonic()
        outlook = Outlook(counters(3, 13), (0, 0, 0))
        self.assertEqual(outlook.two_way_standings(), ())
        self.assertIsNone(outlook.way_to_value(outlook.graph.standings[0], 0))
        self.assertEqual(outlook.sealed_after((0, 1, 2) * 500), 0)
        self.assertLess(time.monotonic() - begun, 10)


if __name__ == "__main__":
    unittest.main()
