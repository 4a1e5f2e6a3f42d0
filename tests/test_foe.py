"""firmvalues.foe: points 9.4 to 9.6, at every two-way standing, with a second search and every fault walked."""

import itertools
import random
import time
import unittest

from firmvalues.books import Book
from firmvalues.falls import Falls
from firmvalues.foe import Onward, Rounds, endless_by_foe, foes_step, go_round
from firmvalues.tables import HouseTable
from firmvalues.valence import Outlook
from firmvalues.verdicts import Endless, Unlike, fault_error
from programs import (SecondGraph, begin_by, counters, drawn_program, movers, shortest_by, shows_by, some_programs,
                      walk_by)
from reckon import NO_SEQUENCES, error_of, inputs_of, lots_of

NO_HOUSES = (True, False, None, -1, "0", 9, 0.0, (0,), [0])


def as_lists(standing):
    return [list(seat) for seat in standing]


def no_sure_falls(drawn, n):
    """A family in which each house stands in some lot."""
    while True:
        falls = Falls(n, drawn.choices([lot for lot in lots_of(n) if 0 < len(lot) < n], k=drawn.randint(2, 4)))
        if falls.sure == ():
            return falls


def rounds_by(program, standing, lot):
    """The couple (run, loop) of rounds, by keeping all standings with which rounds begin."""
    began, steps = [], []
    while True:
        if standing in [other for other, _ in began]:
            at = dict(began)[standing]
            return steps[:at], steps[at:]
        free = [house for house in sorted(lot) if house in movers(standing)]
        if not free:
            return steps, []
        began.append((standing, len(steps)))
        standing = walk_by(program, standing, free)
        steps = steps + free


class TestRounds(unittest.TestCase):
    def test_rounds_and_their_loops(self):
        drawn = random.Random(61)
        loops = 0
        for program in some_programs(8, 62, houses=(2, 3, 4)):
            n = len(program)
            begin = begin_by(program, drawn.choice(inputs_of(n, program[0].m)))
            for _ in range(4):
                standing = walk_by(program, begin, ())
                for _ in range(drawn.randint(0, 6)):
                    if movers(standing):
                        standing = walk_by(program, standing, [drawn.choice(movers(standing))])
                lot = drawn.sample(range(n), drawn.randint(0, n))
                run, loop = rounds_by(program, standing, lot)
                given = drawn.choice([as_lists, tuple])(standing)
                told = go_round(drawn.choice([list, tuple])(program), given, drawn.choice([list, tuple])(lot))
                self.assertEqual((told.run, told.loop), (tuple(run), tuple(loop)))
                behind = walk_by(program, standing, run)
                if loop:
                    self.assertEqual(walk_by(program, behind, loop), behind)
                    self.assertEqual(set(loop), set(lot) & set(movers(behind)))
                else:
                    self.assertEqual(set(lot) & set(movers(behind)), set())
                loops += len(loop) > 0
        self.assertGreater(loops, 50)

    def test_no_house_steps(self):
        program = (HouseTable(2, 1, [0]),) * 2
        begin = begin_by(program, (0, 0))
        self.assertEqual(go_round(program, begin, ()), Rounds((), ()))
        done = (("done", 0, 0), ("write", 0, None))
        self.assertEqual(go_round(program, done, [0]), Rounds((), ()))
        self.assertEqual(go_round(program, done, [1, 0]), Rounds((1,), (1, 1)))

    def test_results(self):
        self.assertEqual(vars(Rounds([0, 1], [])), {"run": (0, 1), "loop": ()})
        self.assertEqual(vars(Onward([0, 1])), {"run": (0, 1)})
        self.assertEqual(Rounds([0], [1]), Rounds((0,), (1,)))
        self.assertEqual(Onward([0]), Onward((0,)))
        for one, others in ((Rounds((0,), (1,)), (Rounds((0,), ()), Rounds((), (1,)), Onward((0,)), ((0,), (1,)), None)),
                            (Onward((0,)), (Onward(()), Rounds((0,), ()), (0,), None))):
            for other in others:
                self.assertFalse(one == other)

    def test_little_time(self):
        begun = time.monotonic()
        program = counters(3, 13)
        told = go_round(program, begin_by(program, (0, 0, 0)), (2, 0, 1))
        self.assertEqual((told.run, told.loop), ((0, 1, 2), (0, 1, 2) * 26))
        self.assertLess(time.monotonic() - begun, 5)


def foe_by(second, ahead, standing, house):
    """The first of the shortest runs of the foe, by a second search; None if there is none."""
    def leads_on(other):
        return house in second.behind[other] and len(ahead[second.behind[other][house]]) > 1
    run = shortest_by(second, standing, leads_on, (house,))
    return None if run is None else run + (house,)


def small_programs(drawn, many):
    """Programs of two houses with two states, in which what a house scans decides what it tells."""
    moves = [0, 1, ("done", 0), ("done", 1)]
    places = [(state, (cell,)) for state in (0, 1) for cell in (None, 0, 1)]
    for _ in range(many):
        yield tuple(HouseTable(2, 2, [0, 1], [(*place, drawn.choice(moves)) for place in places]) for _ in range(2))


class TestSteps(unittest.TestCase):
    def test_every_two_way_standing_and_every_house(self):
        drawn = random.Random(63)
        seen = {"Onward": 0, "Endless": 0, "Unlike": 0, "hidden": 0, "reader done": 0}
        for program in some_programs(12, 64, values=(2, 2, 3)):
            n = len(program)
            entry = drawn.choice(inputs_of(n, program[0].m))
            outlook = Outlook(program, entry)
            second = SecondGraph(program, begin_by(program, entry))
            ahead = second.all_ahead()
            two_way = [standing for standing in second.order if len(ahead[standing]) > 1]
            falls, book = no_sure_falls(drawn, n), Book(n, program[0].m, [entry])
            for standing in drawn.sample(two_way, min(40, len(two_way))):
                for house in range(n):
                    told = foes_step(outlook, falls, drawn.choice([as_lists, tuple])(standing), house)
                    run = foe_by(second, ahead, standing, house)
                    seen[type(told).__name__] += 1
                    if run is not None:
                        self.assertEqual(told, Onward(run))
                        continue
                    self.assertEqual(type(told), Endless if house in movers(standing) else Unlike)
                    self.assertEqual(told.entry, entry)
                    self.assertTrue(shows_by(program, falls, told))
                    self.assertIsNone(fault_error(program, book, falls, "sure", told))
                    if isinstance(told, Endless):
                        self.assertLessEqual(len(told.fallen), 1)
                        behind = walk_by(program, second.first, told.run)
                        seen["hidden"] += len(told.fallen)
                        seen["reader done"] += len(movers(behind)) < n
        for word in ("Onward", "Endless", "Unlike", "hidden"):
            self.assertGreater(seen[word], 15, seen)

    def test_many_small_programs(self):
        drawn = random.Random(65)
        falls = Falls(2, [(0,), (1,)])
        seen = {"hidden": 0, "reader done": 0, "nobody": 0, "onward": 0, "unlike": 0}
        for program in small_programs(drawn, 400):
            outlook = Outlook(program, (0, 1))
            second = SecondGraph(program, begin_by(program, (0, 1)))
            ahead = second.all_ahead()
            for standing, house in itertools.product(outlook.two_way_standings(), (0, 1)):
                told = foes_step(outlook, falls, standing, house)
                run = foe_by(second, ahead, standing, house)
                if run is not None:
                    self.assertEqual(told, Onward(run))
                    seen["onward"] += 1
                    continue
                self.assertTrue(shows_by(program, falls, told))
                if isinstance(told, Unlike):
                    seen["unlike"] += 1
                    self.assertNotIn(house, movers(standing))
                    continue
                behind = walk_by(program, second.first, told.run)
                what = "nobody" if set(movers(behind)) == {0, 1} and not told.fallen else "reader done"
                seen["hidden" if told.fallen else what] += 1
                self.assertIn(house, movers(standing))
        self.assertGreater(min(seen.values()), 3, seen)

    def test_what_is_refused_and_in_which_order(self):
        drawn = random.Random(66)
        refused = 0
        for _ in range(40):
            program = drawn_program(drawn, 3, 2, "drawn")
            outlook = Outlook(program, (0, 1, 1))
            first = outlook.graph.standings[0]
            for lots, least in (((), 0), (((0,),), 1), (((0, 2),), 1), (((0, 1),), 2), (((1,), (2,)), 0)):
                self.assertEqual(error_of(foes_step, outlook, Falls(3, lots), None, None), ("SureHouse", least))
                self.assertEqual(error_of(endless_by_foe, outlook, Falls(3, lots)), ("SureHouse", least))
            falls = Falls(3, [(0,), (1, 2)])
            for wrong in (*NO_SEQUENCES, (), first[:2], (("write", True, None), *first[1:]), (("scan", 9, 9), *first[1:])):
                self.assertEqual(error_of(foes_step, outlook, falls, wrong, None), ("NotReached", wrong))
            for standing in outlook.graph.standings[:5]:
                for wrong in (*NO_HOUSES, 3):
                    self.assertEqual(error_of(foes_step, outlook, falls, standing, wrong), ("NoHouse", wrong))
            for standing in outlook.graph.standings:
                came = outlook.values_at(standing)
                if len(came) < 2:
                    refused += 1
                    self.assertEqual(error_of(foes_step, outlook, falls, standing, 2), ("OneWay", came))
            came = outlook.values_at(first)
            if len(came) < 2:
                self.assertEqual(error_of(endless_by_foe, outlook, falls), ("OneWay", came))
            else:
                endless_by_foe(outlook, falls)
        self.assertGreater(refused, 30)


class TestEndless(unittest.TestCase):
    def endless_by(self, second, ahead, n):
        """The couple (run, loop) of the foe's rounds by second searches; None if some step is missing."""
        standing, began, steps = second.first, {}, ()
        while standing not in began:
            began[standing] = len(steps)
            for house in range(n):
                run = foe_by(second, ahead, standing, house)
                if run is None:
                    return None
                for step in run:
                    standing = second.behind[standing][step]
                steps += run
        return steps[:began[standing]], steps[began[standing]:]

    def test_first_standings_with_one_way(self):
        """What cannot come any more behind the first step is told nevertheless."""
        drawn = random.Random(69)
        seen = 0
        for program in small_programs(drawn, 300):
            outlook = Outlook(program, (0, 1))
            came = [outlook.values_at(standing) for standing in outlook.graph.standings]
            if len(came[0]) < 2:
                self.assertEqual(error_of(endless_by_foe, outlook, Falls(2, [(0,), (1,)])), ("OneWay", came[0]))
                seen += came[0] != came[1]
        late = HouseTable(2, 2, [0, 0], [(0, (None,), ("done", 0)), (0, (0,), 1)])
        never = HouseTable(2, 1, [0, 0])
        outlook = Outlook((never, late), (0, 0))
        self.assertEqual([outlook.values_at(standing) for standing in outlook.graph.standings[:2]], [(0,), ()])
        self.assertEqual(error_of(endless_by_foe, outlook, Falls(2, [(0,), (1,)])), ("OneWay", (0,)))

    def test_endless_runs(self):
        drawn = random.Random(67)
        found = {"endless": 0, "fault": 0}
        programs = [*some_programs(15, 68, values=(2, 3)), *small_programs(drawn, 150)]
        programs += [drawn_program(drawn, n, 2, "adopt") for n in (2, 3) for _ in range(40)]
        for program in programs:
            n = len(program)
            for entry in drawn.sample(inputs_of(n, program[0].m), 2):
                second = SecondGraph(program, begin_by(program, entry))
                ahead = second.all_ahead()
                if len(ahead[second.first]) < 2:
                    continue
                falls, outlook = no_sure_falls(drawn, n), Outlook(program, entry)
                told, wanted = endless_by_foe(outlook, falls), self.endless_by(second, ahead, n)
                self.assertTrue(shows_by(program, falls, told))
                if wanted is None:
                    found["fault"] += 1
                    self.assertIn(type(told), (Endless, Unlike))
                    self.assertIsNone(fault_error(program, Book(n, program[0].m, [entry]), falls, "sure", told))
                    continue
                found["endless"] += 1
                self.assertEqual(told, Endless(entry, *wanted, ()))
                self.assertEqual(set(told.loop), set(range(n)))
                standing = second.first
                for house in told.run + told.loop:
                    standing = second.behind[standing][house]
                    self.assertGreater(len(ahead[standing]), 1)
        self.assertGreater(min(found.values()), 15, found)

    def test_little_time_at_many_standings(self):
        """Two houses count for ever, the third one tells what it finds: two ways are open all the time."""
        entries = [(0, (one, two), ("done", one % 2)) for one in range(11) for two in range(11)]
        counter = counters(3, 11)[0]
        counter = HouseTable(3, 11, [0, 0], counter.moves)
        program = (HouseTable(3, 11, [0, 0], entries), counter, counter)
        begun = time.monotonic()
        outlook = Outlook(program, (0, 1, 1))
        self.assertGreater(len(outlook.graph.standings), 1500)
        told = endless_by_foe(outlook, Falls.at_most(3, 1))
        self.assertTrue(shows_by(program, Falls.at_most(3, 1), told))
        self.assertLess(time.monotonic() - begun, 20)


if __name__ == "__main__":
    unittest.main()
