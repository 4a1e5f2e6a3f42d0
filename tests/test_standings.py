"""firmvalues.standings: points 7.6 to 7.8, against a second reckoning by the words of the points."""

import copy
import random
import unittest

from firmvalues import standings
from firmvalues.tables import HouseTable
from programs import begin_by, movers, some_programs, step_by, told_by
from reckon import NO_SEQUENCES, error_of, inputs_of

NO_HOUSES = (True, False, None, -1, "0", 2, 9, 0.0, (0,), [0], {})


def as_lists(standing):
    return [list(seat) for seat in standing]


def drawn_run(drawn, program, standing, most=30):
    run = []
    while movers(standing) and len(run) < most:
        run.append(drawn.choice(movers(standing)))
        standing = step_by(program, standing, run[-1])
    return run


def passed(program, standing, run):
    trail = [standing]
    for house in run:
        trail.append(step_by(program, trail[-1], house))
    return tuple(trail)


class TestSteps(unittest.TestCase):
    def test_first_standings(self):
        for program in some_programs(4, 11, houses=(2, 3, 4)):
            n, m = len(program), program[0].m
            for entry in inputs_of(n, m):
                self.assertEqual(standings.first_standing(program, entry), begin_by(program, entry))
                self.assertEqual(standings.first_standing(list(program), list(entry)), begin_by(program, entry))

    def test_steps_and_runs(self):
        drawn = random.Random(12)
        decided = 0
        for program in some_programs(15, 13, houses=(2, 3, 4)):
            begin = begin_by(program, drawn.choice(inputs_of(len(program), program[0].m)))
            run = drawn_run(drawn, program, begin)
            trail = passed(program, begin, run)
            self.assertEqual(standings.trail_of(program, begin, run), trail)
            self.assertEqual(standings.trail_of(list(program), as_lists(begin), tuple(run)), trail)
            self.assertEqual(standings.last_standing(program, begin, run), trail[-1])
            self.assertEqual(standings.last_standing(list(program), as_lists(begin), tuple(run)), trail[-1])
            for at, house in enumerate(run):
                self.assertEqual(standings.standing_after(program, trail[at], house), trail[at + 1])
                self.assertEqual(standings.standing_after(list(program), as_lists(trail[at]), house), trail[at + 1])
            decided += len(told_by(trail[-1]))
        self.assertGreater(decided, 30)

    def test_steps_by_hand(self):
        waits = HouseTable(3, 3, [0, 2], [(2, (None, 0), ("done", 1)), (2, (None, None), 1)])
        program = (waits, HouseTable(3, 1, [0, 0]), waits)
        begin = standings.first_standing(program, (1, 0, 0))
        self.assertEqual(begin, (("write", 2, None), ("write", 0, None), ("write", 0, None)))
        trail = standings.trail_of(program, begin, (0, 0, 0, 2, 0))
        self.assertEqual([row[0] for row in trail], [("write", 2, None), ("scan", 2, 2), ("write", 1, 2), ("scan", 1, 1),
                                                     ("scan", 1, 1), ("write", 1, 1)])
        trail = standings.trail_of(program, begin, (0, 2, 0))
        self.assertEqual(trail[-1], (("done", 1, 2), ("write", 0, None), ("scan", 0, 0)))
        self.assertEqual(error_of(standings.standing_after, program, trail[-1], 0), ("NoStep", 0))
        self.assertEqual(standings.cells_beside(trail[-1], 1), (2, 0))

    def test_the_empty_run(self):
        for program in some_programs(1, 14):
            begin = begin_by(program, (0,) * len(program))
            self.assertEqual(standings.trail_of(program, as_lists(begin), []), (begin,))
            self.assertEqual(standings.last_standing(program, as_lists(begin), ()), begin)

    def test_steps_that_cannot_be_taken(self):
        drawn = random.Random(15)
        for program in some_programs(4, 16, houses=(2,)):
            begin = begin_by(program, (0, 0))
            run = drawn_run(drawn, program, begin, 12)
            last = passed(program, begin, run)[-1]
            done = [house for house in (0, 1) if house not in movers(last)]
            for wrong in [*NO_HOUSES, *done]:
                self.assertEqual(error_of(standings.standing_after, program, last, wrong), ("NoStep", wrong))
                for later in ([], [None], [0]):
                    for call in (standings.trail_of, standings.last_standing):
                        self.assertEqual(error_of(call, program, begin, [*run, wrong, *later]), ("NoStep", wrong))
            self.assertEqual(standings.last_standing(program, begin, run), last)

    def test_what_is_refused_and_in_which_order(self):
        table = HouseTable(2, 1, [0, 0])
        begin = standings.first_standing([table, table], (0, 1))
        for program, error in ((None, ("BadProgram", 0, "many")), ([table], ("BadProgram", 0, "many")),
                               ([table, 5], ("BadProgram", 1, "table")),
                               ([HouseTable(3, 1, [0]), table], ("BadProgram", 0, "houses")),
                               ([table, HouseTable(2, 1, [0])], ("BadProgram", 1, "values"))):
            self.assertEqual(error_of(standings.first_standing, program, None), error)
            self.assertEqual(error_of(standings.standing_after, program, begin, True), error)
            self.assertEqual(error_of(standings.trail_of, program, begin, [True]), error)
            self.assertEqual(error_of(standings.last_standing, program, begin, [True]), error)
            self.assertEqual(error_of(standings.check_standing, program, None), error)
        for entry in (*NO_SEQUENCES, (), (0,), (0, 0, 0)):
            self.assertEqual(error_of(standings.first_standing, [table, table], entry), ("BadInput", "length", 0))
        for house in (0, 1):
            for wrong in (*NO_HOUSES[:5], 2):
                entry = ([0] * house + [wrong, None])[:2]
                self.assertEqual(error_of(standings.first_standing, [table, table], entry), ("BadInput", "value", house))

    def test_nothing_that_is_passed_in_is_changed(self):
        for program in some_programs(2, 17):
            given = [list(program), as_lists(begin_by(program, (0,) * len(program))), [0, 1, 0]]
            kept = copy.deepcopy(given[1:])
            trail = standings.trail_of(*given)
            standings.last_standing(*given)
            standings.standing_after(*given[:2], 0)
            self.assertEqual(standings.check_standing(*given[:2]), trail[0])
            self.assertEqual((given[0], given[1:]), (list(program), kept))
            given[1][0][1] = 9
            self.assertEqual(trail[0], begin_by(program, (0,) * len(program)))


class TestLooks(unittest.TestCase):
    def test_what_stands_there(self):
        drawn = random.Random(18)
        for program in some_programs(6, 19, houses=(2, 3, 4)):
            n = len(program)
            begin = begin_by(program, drawn.choice(inputs_of(n, program[0].m)))
            ahead = begin
            for standing in passed(program, begin, drawn_run(drawn, program, begin)):
                for given in (standing, as_lists(standing)):
                    self.assertEqual(standings.steppers_of(given), tuple(movers(standing)))
                    self.assertEqual(standings.told_in(given), tuple(sorted(told_by(standing))))
                    decided = tuple(seat[1] if seat[0] == "done" else None for seat in standing)
                    self.assertEqual(standings.decided_by(given), decided)
                    for house in range(n):
                        beside = tuple(standing[other][2] for other in range(n) if other != house)
                        self.assertEqual(standings.cells_beside(given, house), beside)
                    unlike = tuple(house for house in range(n) if standing[house] != ahead[house])
                    self.assertEqual(standings.unlike_seats(given, ahead), unlike)
                    self.assertEqual(standings.unlike_seats(as_lists(ahead), given), unlike)
                    self.assertEqual(standings.unlike_seats(given, standing), ())
                ahead = drawn.choice([ahead, standing])

    def test_values_are_told_once_and_ascending(self):
        standing = (("done", 3, 0), ("done", 0, 1), ("done", 3, 2), ("scan", 1, 1))
        self.assertEqual(standings.told_in(standing), (0, 3))
        self.assertEqual(standings.decided_by(standing), (3, 0, 3, None))


class TestCheckStanding(unittest.TestCase):
    def setUp(self):
        self.program = (HouseTable(3, 2, [0, 1, 0]), HouseTable(3, 1, [0, 0, 0]), HouseTable(3, 4, [3, 2, 1]))

    def seats(self, states, values):
        """All right seats of a house of so many states."""
        for held in range(states):
            yield from (("write", held, cell) for cell in [None, *range(states)])
            yield "scan", held, held
        yield from (("done", value, cell) for value in range(values) for cell in range(states))

    def test_right_standings_come_back_as_tuples(self):
        for one in self.seats(2, 3):
            for third in self.seats(4, 3):
                for second in (("write", 0, None), ("scan", 0, 0), ("done", 2, 0)):
                    told = standings.check_standing(list(self.program), [list(one), second, list(third)])
                    self.assertEqual(repr(told), repr((one, second, third)))

    def test_what_is_refused(self):
        right = [("write", 1, None), ("scan", 0, 0), ("done", 2, 3)]
        for standing in (*NO_SEQUENCES, (), right[:2], right + right[:1], "abc"):
            self.assertEqual(error_of(standings.check_standing, self.program, standing), ("BadStanding", 0, "many"))
        states, nones = (2, 1, 4), (True, False, None, -1, "0", 0.0, (0,), [])
        for house in range(3):
            many = states[house]
            cases = [("seat", [*NO_SEQUENCES, (), ("scan", 0), ("scan", 0, 0, 0), "abc"]),
                     ("next", [(word, None, True) for word in (*nones, "writes", "Scan", "", b"done", 1)]),
                     ("held", [(word, held, True) for word in ("write", "scan") for held in (*nones, many)]),
                     ("held", [("done", held, True) for held in (*nones, 3)]),
                     ("cell", [("write", 0, cell) for cell in (*nones, many) if cell is not None]),
                     ("cell", [("scan", 0, cell) for cell in (*nones, many, 1)]),
                     ("cell", [("done", 0, cell) for cell in (*nones, many)])]
            if many > 1:
                cases.append(("cell", [("scan", 1, 0), ("scan", 0, 1), ("scan", 1, True)]))
            for what, seats in cases:
                for seat in seats:
                    for later in (right, [None] * 3):
                        standing = right[:house] + [seat] + later[house + 1:]
                        told = error_of(standings.check_standing, self.program, standing)
                        self.assertEqual(told, ("BadStanding", house, what), standing)
        self.assertEqual(standings.check_standing(self.program, right), tuple(right))


if __name__ == "__main__":
    unittest.main()
