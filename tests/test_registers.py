"""firmvalues.registers: point 15.4, each command with numbers on both sides of 0, and what is no command."""

import itertools
import random
import unittest

from firmvalues.registers import Commands, folded_state, states_along
from reckon import NO_SEQUENCES, error_of

NUMBERS = (0, 1, -1, 7, -12, 10 ** 30, -10 ** 30, 2 ** 64)
NO_NUMBERS = (True, False, None, "0", 0.5, (0,), [0], {}, b"1")


def drawn_command(drawn, many):
    word = drawn.choice(["set", "add", "copy", "swap", "keep"])
    if word == "keep":
        return (word,)
    at = drawn.randrange(many)
    return (word, at, drawn.choice(NUMBERS) if word in ("set", "add") else drawn.randrange(many))


def states_by(start, rows, log):
    registers, states = list(start), [tuple(start)]
    for value in log:
        word, *rest = rows[value]
        if word == "set":
            registers[rest[0]] = rest[1]
        if word == "add":
            registers[rest[0]] += rest[1]
        if word == "copy":
            registers[rest[0]] = registers[rest[1]]
        if word == "swap":
            a, b = rest
            registers[a], registers[b] = registers[b], registers[a]
        states.append(tuple(registers))
    return tuple(states)


class TestRegisters(unittest.TestCase):
    def test_states_against_a_second_reckoning(self):
        drawn = random.Random(421)
        for _ in range(400):
            start = [drawn.choice(NUMBERS) for _ in range(drawn.randint(1, 4))]
            rows = [list(drawn_command(drawn, len(start))) for _ in range(drawn.randint(1, 4))]
            commands = Commands(start, rows)
            for length in (0, 1, 2, 5, 9):
                log = [drawn.randrange(len(rows)) for _ in range(length)]
                states = states_by(start, rows, log)
                self.assertEqual(states_along(commands, log), states)
                self.assertEqual(states_along(commands, tuple(log)), states)
                self.assertEqual(folded_state(commands, log), states[-1])
                self.assertEqual([folded_state(commands, log[:at]) for at in range(length + 1)], list(states))

    def test_each_command(self):
        for command, wanted in ((("set", 1, -10 ** 30), (1, -10 ** 30, 3)), (("add", 0, 10 ** 30), (1 + 10 ** 30, 2, 3)),
                                (("add", 2, -10 ** 30), (1, 2, 3 - 10 ** 30)), (("copy", 0, 2), (3, 2, 3)),
                                (("copy", 2, 0), (1, 2, 1)), (("swap", 0, 2), (3, 2, 1)), (("swap", 1, 1), (1, 2, 3)),
                                (("copy", 1, 1), (1, 2, 3)), (("keep",), (1, 2, 3))):
            self.assertEqual(folded_state(Commands((1, 2, 3), (command,)), (0,)), wanted)

    def test_attributes_and_equality(self):
        start, rows = [1, 2], [["set", 0, 5], ["keep"]]
        commands = Commands(start, rows)
        start.append(3)
        rows[0][2] = 6
        self.assertEqual((commands.start, commands.rows), ((1, 2), (("set", 0, 5), ("keep",))))
        self.assertEqual(commands, Commands((1, 2), (("set", 0, 5), ("keep",))))
        for other in (Commands((1, 3), commands.rows), Commands((1, 2), commands.rows[:1]), Commands((1, 2), (("keep",),) * 2),
                      None, (commands.start, commands.rows)):
            self.assertNotEqual(commands, other)

    def test_start_and_its_numbers(self):
        for start in NO_SEQUENCES + ((), [], [0] * 5):
            for rows in ([("keep",)], None, [()]):
                self.assertEqual(error_of(Commands, start, rows), ("BadCommands", "start", 0))
        for many, at in [(many, at) for many in (1, 2, 4) for at in range(many)]:
            for thing in NO_NUMBERS:
                start = [0] * many
                start[at] = thing
                for rows in ([("keep",)], None):
                    self.assertEqual(error_of(Commands, start, rows), ("BadCommands", "number", at))
                start[-1] = "x"
                self.assertEqual(error_of(Commands, start, []), ("BadCommands", "number", at))

    def test_rows(self):
        for rows in NO_SEQUENCES + ((), [], [("keep",)] * 5):
            self.assertEqual(error_of(Commands, [0], rows), ("BadCommands", "rows", 0))
        self.assertIsNone(error_of(Commands, [0] * 4, [("keep",)] * 4))

    def test_every_row_that_is_no_command(self):
        wrong = list(NO_SEQUENCES) + [(), [], ("keep", 0), ("keeps",), ("Set", 0, 0), (("set",), 0, 0), (None,), ("set",),
                                      ("set", 0), ("set", 0, 0, 0), ("swap", 0), ("copy", 0, 0, 0), ({},), (True, 0, 0)]
        for word, thing in itertools.product(("set", "add", "copy", "swap"), NO_NUMBERS + (-1, 3, 10 ** 30)):
            wrong.append((word, thing, 0))
        for word, thing in itertools.product(("set", "add"), NO_NUMBERS):
            wrong.append((word, 0, thing))
        for word, thing in itertools.product(("copy", "swap"), NO_NUMBERS + (-1, 3, 10 ** 30)):
            wrong.append((word, 0, thing))
        for thing in wrong:
            for at in range(3):
                rows = [("keep",), ("add", 2, 1), ("swap", 0, 2)]
                rows[at] = thing
                self.assertEqual(error_of(Commands, (0, 0, 0), rows), ("BadCommands", "command", at), thing)
                self.assertEqual(error_of(Commands, (0, 0, 0), [*rows, ()]), ("BadCommands", "command", at))
        for many in (1, 2, 3, 4):
            for at in range(4):
                told = error_of(Commands, [0] * many, [("set", at, 0)])
                self.assertEqual(told, None if at < many else ("BadCommands", "command", 0))


if __name__ == "__main__":
    unittest.main()
