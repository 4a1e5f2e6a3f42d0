"""firmvalues.tables: points 7.1 to 7.5."""

import itertools
import random
import time
import unittest

from firmvalues import tables
from firmvalues.falls import Falls
from firmvalues.tables import HouseTable
from reckon import NO_SEQUENCES, error_of, inputs_of, rows

NO_STATES = (True, False, None, -1, "0", 0.0, (0,), [0])


def drawn_move(drawn, states, values):
    if drawn.random() < 0.4:
        return drawn.choice([list, tuple])(("done", drawn.randrange(values)))
    return drawn.randrange(states)


def drawn_entries(drawn, houses, states, values, most=30):
    places = {}
    for _ in range(drawn.randint(0, most)):
        place = drawn.randrange(states), tuple(drawn.choice([None, *range(40)]) for _ in range(houses - 1))
        places[place] = drawn_move(drawn, states, values)
    entries = [[state, drawn.choice([list, tuple])(others), move] for (state, others), move in places.items()]
    drawn.shuffle(entries)
    return entries


def kept_by(entries):
    plain = [(state, tuple(others), tuple(move) if isinstance(move, (list, tuple)) else move)
             for state, others, move in entries]
    return tuple(sorted([entry for entry in plain if entry[2] != entry[0]],
                        key=lambda entry: (entry[0], [(cell is not None, cell or 0) for cell in entry[1]])))


def drawn_table(drawn, houses, values, states=None):
    states = states or drawn.randint(1, 5)
    start = [drawn.randrange(states) for _ in range(values)]
    cells = [None, *range(5)]
    places = [(state, others) for state in range(states) for others in rows(cells[:4], houses - 1)]
    chosen = drawn.sample(places, drawn.randint(0, min(40, len(places))))
    return HouseTable(houses, states, start, [(*place, drawn_move(drawn, states, values)) for place in chosen])


class TestHouseTable(unittest.TestCase):
    def test_moves_in_their_order(self):
        drawn = random.Random(1)
        for _ in range(300):
            n, states, m = drawn.randint(2, 5), drawn.choice([1, 2, 3, 5, 40]), drawn.randint(1, 4)
            start = [drawn.randrange(states) for _ in range(m)]
            entries = drawn_entries(drawn, n, states, m)
            kept = repr((start, entries))
            table = HouseTable(n, states, start, drawn.choice([list, tuple])(entries))
            self.assertEqual(repr((start, entries)), kept)
            self.assertEqual((table.n, table.m, table.states, table.start), (n, m, states, tuple(start)))
            self.assertEqual(repr(table.moves), repr(kept_by(entries)))
            told = {(state, others): move for state, others, move in table.moves}
            for state, others, move in entries:
                move = tuple(move) if isinstance(move, list) else move
                self.assertEqual(table.next_move(state, tuple(others)), move)
                self.assertEqual(repr(table.next_move(state, list(others))), repr(move))
            for _ in range(20):
                place = drawn.randrange(states), tuple(drawn.choice([None, 0, 1]) for _ in range(n - 1))
                self.assertEqual(table.next_move(*place), told.get(place, place[0]))

    def test_none_stands_ahead_of_nought(self):
        entries = [(0, others, 1) for others in rows([1, None, 0], 2)]
        table = HouseTable(3, 2, [0], entries)
        self.assertEqual([others for state, others, move in table.moves], rows([None, 0, 1], 2))

    def test_lists_that_change_later(self):
        start, others, move = [0, 1], [None, 1], ["done", 0]
        entries = [[0, others, move]]
        table = HouseTable(3, 2, start, entries)
        start[0], others[0], move[1] = 1, 0, 1
        entries.clear()
        self.assertEqual((table.start, table.moves), ((0, 1), ((0, (None, 1), ("done", 0)),)))
        self.assertEqual(table.next_move(0, (None, 1)), ("done", 0))

    def test_no_moves(self):
        for table in (HouseTable(2, 1, [0]), HouseTable(2, 1, (0,), ()), HouseTable(2, 1, (0,), [(0, [None], 0)])):
            self.assertEqual(table.moves, ())
            self.assertEqual(table.next_move(0, (None,)), 0)
            self.assertEqual(table, HouseTable(houses=2, states=1, start=[0], moves=[]))

    def test_equal_tables(self):
        one = HouseTable(2, 2, (0, 1), [(0, (None,), 1), (1, (0,), ("done", 1))])
        self.assertEqual(one, HouseTable(2, 2, [0, 1], [[1, [0], ["done", 1]], [0, [None], 1], [1, [1], 1]]))
        for other in (HouseTable(2, 3, (0, 1), one.moves), HouseTable(2, 2, (1, 1), one.moves),
                      HouseTable(2, 2, (0, 1), one.moves[:1]), HouseTable(2, 2, (0, 1, 1), one.moves),
                      HouseTable(2, 2, (0, 1), [(0, (None,), 1), (1, (0,), ("done", 0))]), None, 5, one.moves,
                      Falls(2, [])):
            self.assertFalse(one == other)
            self.assertTrue(one != other)
        self.assertNotEqual(HouseTable(2, 1, [0]), HouseTable(3, 1, [0]))

    def test_the_frame_is_refused_in_its_order(self):
        for houses in (*NO_STATES, 1, 6):
            self.assertEqual(error_of(HouseTable, houses, 0, None, None), ("BadTable", 0, "houses"))
        for states in (*NO_STATES, 0, 41):
            self.assertEqual(error_of(HouseTable, 2, states, None, None), ("BadTable", 0, "states"))
        for start in (*NO_SEQUENCES, (), [0] * 5):
            self.assertEqual(error_of(HouseTable, 2, 2, start, None), ("BadTable", 0, "start"))
        for index in range(4):
            for wrong in (*NO_STATES, 2):
                for later in (0, None):
                    start = ([0] * index + [wrong] + [later] * 3)[:4]
                    self.assertEqual(error_of(HouseTable, 2, 2, start, None), ("BadTable", index, "start"))
        for moves in NO_SEQUENCES:
            self.assertEqual(error_of(HouseTable, 2, 2, [0], moves), ("BadTable", 0, "moves"))
        self.assertEqual(error_of(HouseTable, 2, 2, [0], [None] * 20001), ("BadTable", 0, "moves"))
        self.assertEqual(error_of(HouseTable, 2, 2, [0], [None] * 20000), ("BadTable", 0, "entry"))
        self.assertEqual(HouseTable(2, 40, [39]).states, 40)

    def test_each_entry_is_refused_in_its_order(self):
        wrong = [
            ("entry", [*NO_SEQUENCES, (), (0, (None,)), [0, (None,), 0, 0]]),
            ("state", [(state, None, None) for state in (*NO_STATES, 2)]),
            ("others", [(0, others, None) for others in (*NO_SEQUENCES, (), (0, 0), [40], [-1], [True], ["0"], [(0,)])]),
            ("move", [(0, (39,), move) for move in
                      (*NO_SEQUENCES, *NO_STATES, 2, (), ("done",), ("done", 0, 0), ("done", 3), ("done", -1),
                       ("done", True), ("done", None), ("done", "0"), ("Done", 0), (None, 0), (0, "done"), ["done", [0]],
                       ("done", 0.0), {"done": 0}, {"done", 0}, "done", (b"done", 0))]),
            ("twice", [(0, (None,), 1), [0, [None], 0], (0, (None,), ["done", 2])]),
        ]
        first = [0, [None], 1]
        for what, entries in wrong:
            for entry in entries:
                for later in (None, (1, (None,), 1)):
                    told = error_of(HouseTable, 2, 2, [0, 1, 0], [first, entry, later])
                    self.assertEqual(told, ("BadTable", 1, what), entry)
        self.assertEqual(error_of(HouseTable, 2, 2, [0], [(0, (1,), 0), (0, [1], 0)]), ("BadTable", 1, "twice"))
        self.assertEqual(error_of(HouseTable, 2, 2, [0], [(0, (1,), 0), (0, [1], 9)]), ("BadTable", 1, "move"))
        table = HouseTable(2, 2, [0, 1, 0], [first, (1, (39,), ["done", 2])])
        self.assertEqual(table.moves, ((0, (None,), 1), (1, (39,), ("done", 2))))


class TestMaking(unittest.TestCase):
    def test_other_rows(self):
        for houses, states in itertools.product(range(2, 6), range(1, 5)):
            told = tables.other_rows(houses, states)
            self.assertIs(iter(told), told)
            self.assertEqual(list(told), rows([None, *range(states)], houses - 1))
        begun = time.monotonic()
        first = [row for row, _ in zip(tables.other_rows(5, 40), range(45))]
        self.assertEqual(first[:2] + first[40:43], [(None,) * 4, (None, None, None, 0), (None, None, None, 39),
                                                    (None, None, 0, None), (None, None, 0, 0)])
        self.assertLess(time.monotonic() - begun, 2)

    def test_dense_tables_and_tables_of_rules(self):
        drawn = random.Random(2)
        for _ in range(80):
            n, m = drawn.randint(2, 5), drawn.randint(1, 4)
            states = drawn.randint(1, {2: 8, 3: 5, 4: 3, 5: 2}[n])
            start = [drawn.randrange(states) for _ in range(m)]
            places = [(state, others) for state in range(states) for others in rows([None, *range(states)], n - 1)]
            moves = [drawn_move(drawn, states, m) for _ in places]
            wanted = HouseTable(n, states, start, [(*place, move) for place, move in zip(places, moves)])
            self.assertEqual(tables.dense_table(n, states, start, moves), wanted)
            self.assertEqual(tables.dense_table(n, states, tuple(start), tuple(moves)), wanted)
            asked = []

            def rule(state, others):
                asked.append((state, others))
                return moves[len(asked) - 1]
            self.assertEqual(tables.table_of(n, states, start, rule), wanted)
            self.assertEqual(asked, places)

    def test_a_rule_that_gives_one_list_again_and_again(self):
        answer = ["done", 0]

        def rule(state, others):
            answer[1] = 1 - answer[1]
            return answer
        moves = [move for state, others, move in tables.table_of(2, 2, [0, 1], rule).moves]
        self.assertEqual(moves, [("done", 1), ("done", 0)] * 3)

    def test_the_same_frame_is_refused(self):
        for houses in (*NO_STATES, 1, 6):
            self.assertEqual(error_of(tables.dense_table, houses, 0, None, None), ("BadTable", 0, "houses"))
            self.assertEqual(error_of(tables.table_of, houses, 0, None, None), ("BadTable", 0, "houses"))
        for states in (*NO_STATES, 0, 41):
            self.assertEqual(error_of(tables.dense_table, 2, states, None, None), ("BadTable", 0, "states"))
            self.assertEqual(error_of(tables.table_of, 2, states, None, None), ("BadTable", 0, "states"))
        for start, at in ((None, 0), ((), 0), ([0] * 5, 0), ([0, True], 1), ((0, 1, 2), 2)):
            self.assertEqual(error_of(tables.dense_table, 5, 2, start, None), ("BadTable", at, "start"))
            self.assertEqual(error_of(tables.table_of, 5, 2, start, None), ("BadTable", at, "start"))

    def test_rows_and_moves_are_refused(self):
        for given in (*NO_SEQUENCES, (), [0] * 5, [0] * 7, [None] * 7, range(6)):
            self.assertEqual(error_of(tables.dense_table, 2, 2, [0], given), ("BadTable", 0, "rows"))
        for index in range(6):
            for wrong in (*NO_STATES[:4], 2, "0", ("done", 1), ("done",), {}):
                for later in (0, None):
                    given = ([0] * index + [wrong] + [later] * 5)[:6]
                    self.assertEqual(error_of(tables.dense_table, 2, 2, [0], given), ("BadTable", index, "move"))
                    told = error_of(tables.table_of, 2, 2, [0], lambda state, others: given[self.place(state, others)])
                    self.assertEqual(told, ("BadTable", index, "move"))

    def place(self, state, others):
        return 3 * state + (0 if others[0] is None else others[0] + 1)

    def test_too_many_places(self):
        def never(state, others):
            raise AssertionError("the rule is not asked")
        for houses, fine, beyond in ((3, 26, 27), (4, 11, 12), (5, 6, 7)):
            self.assertLessEqual(fine * (fine + 1) ** (houses - 1), 20000)
            many = beyond * (beyond + 1) ** (houses - 1)
            self.assertGreater(many, 20000)
            self.assertEqual(error_of(tables.dense_table, houses, beyond, [0], [0] * many), ("BadTable", 0, "rows"))
            self.assertEqual(error_of(tables.table_of, houses, beyond, [0], never), ("BadTable", 0, "rows"))
            table = tables.table_of(houses, fine, [0], lambda state, others: ("done", 0))
            self.assertEqual(len(table.moves), fine * (fine + 1) ** (houses - 1))
        self.assertEqual(len(tables.table_of(2, 40, [0], lambda state, others: 0).moves), 39 * 41)


def run_by(program, entry, steps):
    """What each house has decided behind some steps over common cells, by the words of point 7.1."""
    held = [table.start[value] for table, value in zip(program, entry)]
    cells, writes, told = [None] * len(entry), [True] * len(entry), [None] * len(entry)
    for house in steps:
        if told[house] is None and writes[house]:
            cells[house] = held[house]
            writes[house] = False
        elif told[house] is None:
            move = program[house].next_move(held[house], tuple(cells[:house] + cells[house + 1:]))
            if isinstance(move, tuple):
                told[house] = move[1]
            else:
                held[house], writes[house] = move, True
    return told, cells


class TestPrograms(unittest.TestCase):
    def test_right_programs_come_back_as_tuples(self):
        drawn = random.Random(3)
        for n, m in itertools.product(range(2, 6), range(1, 5)):
            program = [drawn_table(drawn, n, m) for _ in range(n)]
            told = tables.check_program(program)
            self.assertEqual((type(told), list(told)), (tuple, program))
            self.assertEqual(tables.check_program(tuple(program)), told)
            program.pop()
            self.assertEqual(len(told), n)

    def test_programs_are_refused(self):
        table = HouseTable(3, 1, [0, 0])
        for call in (tables.check_program, lambda program: tables.led_program(program, None, None)):
            for program in (*NO_SEQUENCES, (), [table], [table] * 6, [None] * 6, table):
                self.assertEqual(error_of(call, program), ("BadProgram", 0, "many"))
            for house in range(3):
                for later in (table, None):
                    for wrong, what in ((None, "table"), (5, "table"), ((3, 1, [0, 0]), "table"), ("table", "table"),
                                        (HouseTable(2, 1, [0]), "houses")):
                        program = ([table] * house + [wrong] + [later] * 2)[:3]
                        self.assertEqual(error_of(call, program), ("BadProgram", house, what))
                    if house > 0:
                        program = ([table] * house + [HouseTable(3, 1, [0])] + [later] * 2)[:3]
                        self.assertEqual(error_of(call, program), ("BadProgram", house, "values"))
            program = [HouseTable(3, 1, [0]), table, table]
            self.assertEqual(error_of(call, program), ("BadProgram", 1, "values"))

    def test_led_programs_run_as_the_others_do(self):
        drawn = random.Random(4)
        decided = 0
        for _ in range(250):
            n, m = drawn.randint(2, 5), drawn.randint(1, 4)
            program = [drawn_table(drawn, n, m, 3) for _ in range(n)]
            kept = [vars(table).copy() for table in program]
            order, names = drawn.sample(range(n), n), drawn.sample(range(m), m)
            led = tables.led_program(program, order, names)
            self.assertEqual([vars(table) for table in program], kept)
            self.assertEqual(type(led), tuple)
            for house in range(n):
                self.assertEqual(led[order[house]].states, program[house].states)
            for entry in drawn.choices(inputs_of(n, m), k=8):
                run = drawn.choices(range(n), k=30)
                told, cells = run_by(program, entry, run)
                led_entry = [None] * n
                for house in range(n):
                    led_entry[order[house]] = names[entry[house]]
                led_told, led_cells = run_by(led, led_entry, [order[house] for house in run])
                for house in range(n):
                    value = told[house]
                    self.assertEqual(led_told[order[house]], None if value is None else names[value])
                    self.assertEqual(led_cells[order[house]], cells[house])
                    decided += value is not None
            back = tables.led_program(led, [order.index(h) for h in range(n)], tuple(names.index(v) for v in range(m)))
            self.assertEqual(list(back), program)
        self.assertGreater(decided, 500)

    def test_a_led_table_by_hand(self):
        table = HouseTable(3, 2, [0, 1], [(0, (None, 1), ("done", 1)), (1, (0, 1), 0)])
        plain = HouseTable(3, 1, [0, 0])
        led = tables.led_program([table, plain, plain], [2, 1, 0], [1, 0])
        self.assertEqual(led[2], HouseTable(3, 2, [1, 0], [(0, (1, None), ("done", 0)), (1, (1, 0), 0)]))
        led = tables.led_program([plain, plain, table], [0, 2, 1], [0, 1])
        self.assertEqual(led, (plain, table, plain))

    def test_leadings_are_refused(self):
        program = [HouseTable(2, 1, [0, 0])] * 2
        for wrong in (*NO_SEQUENCES, (0,), (0, 0), (0, 2), (0, True), (0, 1, 2)):
            self.assertEqual(error_of(tables.led_program, program, wrong, wrong), ("BadLeading", "order"))
            self.assertEqual(error_of(tables.led_program, program, (0, 1), wrong), ("BadLeading", "names"))
        self.assertEqual(tables.led_program(program, [1, 0], [1, 0]), tuple(program))


if __name__ == "__main__":
    unittest.main()
