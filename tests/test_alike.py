"""firmvalues.alike: points 9.1 and 9.2, at every standing of small graphs and along drawn runs."""

import itertools
import random
import unittest

from firmvalues import alike
from firmvalues.tables import HouseTable
from programs import SecondGraph, begin_by, drawn_program, movers, some_programs, step_by, walk_by
from reckon import NO_SEQUENCES, error_of, inputs_of, lots_of

NO_HOUSES = (True, False, None, -1, "0", 2, 0.0, (0,), [0])


def as_lists(standing):
    return [list(seat) for seat in standing]


def alike_by(one, other, lot):
    if [seat[2] for seat in one] != [seat[2] for seat in other]:
        return False
    return all(one[house] == other[house] for house in range(len(one)) if house not in lot)


class TestAlikeOff(unittest.TestCase):
    def test_any_two_standings(self):
        drawn = random.Random(41)
        yes = 0
        for program in some_programs(3, 42):
            n = len(program)
            graphs = [SecondGraph(program, begin_by(program, entry)) for entry in inputs_of(n, program[0].m)[:3]]
            standings = [standing for graph in graphs for standing in graph.order]
            for _ in range(60):
                one, other = drawn.choice(standings), drawn.choice(standings)
                seats = list(one)
                seats[drawn.randrange(n)] = (drawn.choice(["write", "scan", "done"]), 0, drawn.choice([0, None]))
                for other in (other, tuple(seats), one):
                    for lot in lots_of(n):
                        wanted = alike_by(one, other, lot)
                        yes += wanted and one != other
                        self.assertIs(alike.alike_off(one, other, lot), wanted)
                        self.assertIs(alike.alike_off(as_lists(other), one, list(lot)), wanted)
                        self.assertIs(alike.alike_off(one, as_lists(other), lot), wanted)
        self.assertGreater(yes, 100)

    def test_rows_by_hand(self):
        one = (("scan", 1, 1), ("write", 0, None))
        self.assertIs(alike.alike_off(one, (("done", 0, 1), one[1]), (0,)), True)
        self.assertIs(alike.alike_off(one, (("done", 0, 1), one[1]), (1,)), False)
        self.assertIs(alike.alike_off(one, (("write", 0, 0), one[1]), (0,)), False)
        self.assertIs(alike.alike_off(one, one, ()), True)
        self.assertIs(alike.alike_off(one, one[:1], (0, 1)), False)
        self.assertIs(alike.alike_off(one, (("read", 9, 1), ("nothing", 7, None)), [1, 0]), True)

    def test_a_step_of_one_that_is_not_hidden_keeps_it(self):
        stepped = 0
        for program in some_programs(2, 43, houses=(2,)):
            order = SecondGraph(program, begin_by(program, (0, 0))).order
            for one, other in itertools.product(order, repeat=2):
                for lot in lots_of(2):
                    if alike_by(one, other, lot):
                        for house in movers(one):
                            if house not in lot:
                                behind = step_by(program, one, house), step_by(program, other, house)
                                self.assertTrue(alike.alike_off(*behind, lot))
                                stepped += one != other
        self.assertGreater(stepped, 10)


class TestBothOrders(unittest.TestCase):
    def test_every_standing(self):
        seen = {}
        drawn = random.Random(44)
        for program in some_programs(4, 45):
            n = len(program)
            entry = drawn.choice(inputs_of(n, program[0].m))
            for standing in SecondGraph(program, begin_by(program, entry)).order:
                for house, second in itertools.permutations(movers(standing), 2):
                    given = drawn.choice([as_lists, tuple])(standing)
                    one, other, hidden = alike.both_orders(drawn.choice([list, tuple])(program), given, house, second)
                    self.assertEqual(one, walk_by(program, standing, (house, second)))
                    self.assertEqual(other, walk_by(program, standing, (second, house)))
                    words = standing[house][0], standing[second][0]
                    if one == other:
                        self.assertIsNone(hidden)
                    else:
                        self.assertEqual(sorted(words), ["scan", "write"])
                        self.assertEqual(hidden, house if words[0] == "scan" else second)
                        self.assertTrue(alike_by(one, other, (hidden,)))
                        self.assertTrue(alike.alike_off(one, other, (hidden,)))
                    key = words, hidden is None
                    seen[key] = seen.get(key, 0) + 1
        self.assertEqual(sorted(seen), [(("scan", "scan"), True), (("scan", "write"), False), (("scan", "write"), True),
                                        (("write", "scan"), False), (("write", "scan"), True),
                                        (("write", "write"), True)])

    def test_what_is_refused(self):
        drawn = random.Random(46)
        for _ in range(20):
            program = drawn_program(drawn, 2, 2, "drawn")
            begin = begin_by(program, (0, 1))
            for house in (*NO_HOUSES, 0, 1):
                self.assertEqual(error_of(alike.both_orders, program, begin, house, house), ("SameHouse", house))
                if house not in (0, 1) or isinstance(house, bool):
                    for second in (0, 1):
                        self.assertEqual(error_of(alike.both_orders, program, begin, house, second), ("NoStep", house))
                        self.assertEqual(error_of(alike.both_orders, program, begin, second, house), ("NoStep", house))
            self.assertEqual(error_of(alike.both_orders, program, begin, 7, -1), ("NoStep", 7))
            for standing in SecondGraph(program, begin).order:
                done = [house for house in (0, 1) if house not in movers(standing)]
                for house, second in itertools.permutations((0, 1)):
                    told = error_of(alike.both_orders, program, standing, house, second)
                    wrong = [other for other in (house, second) if other in done]
                    self.assertEqual(told, ("NoStep", wrong[0]) if wrong else None)


class TestCarryRun(unittest.TestCase):
    def test_runs_to_other_inputs(self):
        drawn = random.Random(47)
        carried = 0
        for program in some_programs(8, 48, houses=(2, 3, 4)):
            n, inputs = len(program), inputs_of(len(program), program[0].m)
            for _ in range(4):
                entry, other = drawn.choice(inputs), drawn.choice(inputs)
                like = [house for house in range(n) if entry[house] == other[house]]
                one, two, run = begin_by(program, entry), begin_by(program, other), []
                while len(run) < 20 and set(like) & set(movers(one)):
                    run.append(drawn.choice([house for house in like if house in movers(one)]))
                    one, two = step_by(program, one, run[-1]), step_by(program, two, run[-1])
                given = [list(program), list(entry), tuple(run), list(other)]
                self.assertEqual(alike.carry_run(*given), (one, two))
                self.assertEqual(alike.carry_run(program, entry, run, other), (one, two))
                differ = [house for house in range(n) if entry[house] != other[house]]
                self.assertTrue(alike.alike_off(one, two, differ))
                carried += len(run) > 3 and entry != other
                if differ:
                    wrong = run + drawn.sample(differ, drawn.randint(1, len(differ))) + [9, None]
                    least = min(house for house in differ if house in wrong)
                    drawn.shuffle(wrong)
                    self.assertEqual(error_of(alike.carry_run, program, entry, wrong, other), ("UnlikeHouse", least))
        self.assertGreater(carried, 50)

    def test_what_is_refused_and_in_which_order(self):
        quick = HouseTable(2, 1, [0, 0], [(0, (None,), ("done", 0))])
        program = (quick, quick)
        for wrong in (None, [quick], [quick, None]):
            self.assertEqual(error_of(alike.carry_run, wrong, None, [None], None)[0], "BadProgram")
        for entry in (*NO_SEQUENCES, (), (0,)):
            self.assertEqual(error_of(alike.carry_run, program, entry, [None], None), ("BadInput", "length", 0))
            self.assertEqual(error_of(alike.carry_run, program, (0, 0), [None], entry), ("BadInput", "length", 0))
        for wrong in (True, None, -1, "0", 2):
            self.assertEqual(error_of(alike.carry_run, program, (0, wrong), [None], None), ("BadInput", "value", 1))
            self.assertEqual(error_of(alike.carry_run, program, (0, 0), [None], (wrong, None)), ("BadInput", "value", 0))
        self.assertEqual(error_of(alike.carry_run, program, (0, 1), [None, 1], (0, 0)), ("UnlikeHouse", 1))
        self.assertEqual(error_of(alike.carry_run, program, (0, 1), [1, 0], (1, 0)), ("UnlikeHouse", 0))
        for wrong in NO_HOUSES:
            self.assertEqual(error_of(alike.carry_run, program, (0, 1), [0, wrong, None], (0, 0)), ("NoStep", wrong))
        # True would pass for the house 1, at which the inputs are unlike.
        self.assertEqual(error_of(alike.carry_run, program, (0, 1), [True], (0, 0)), ("NoStep", True))
        self.assertEqual(error_of(alike.carry_run, program, (0, 1), [0, 0, 0, 9], (0, 0)), ("NoStep", 0))
        told = alike.carry_run(program, (0, 1), [0, 0], (0, 0))
        self.assertEqual(told, ((("done", 0, 0), ("write", 0, None)),) * 2)


if __name__ == "__main__":
    unittest.main()
