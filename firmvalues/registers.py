"""Commands: what each decided value does with registers of numbers."""

from firmvalues.errors import BadCommands
from firmvalues.inputs import as_tuples, is_sequence, is_whole

MOST_REGISTERS = 4
MOST_ROWS = 4
ARGUMENTS = {
    "set": ("place", "number"),
    "add": ("place", "number"),
    "copy": ("place", "place"),
    "swap": ("place", "place"),
    "keep": (),
}


class Commands:
    """The numbers that the registers begin with, and one command for each value."""

    def __init__(self, start, rows):
        if not is_sequence(start) or not 1 <= len(start) <= MOST_REGISTERS:
            raise BadCommands("start", 0)
        for at in range(len(start)):
            if not is_whole(start[at]):
                raise BadCommands("number", at)
        if not is_sequence(rows) or not 1 <= len(rows) <= MOST_ROWS:
            raise BadCommands("rows", 0)
        for at in range(len(rows)):
            if not _is_command(len(start), rows[at]):
                raise BadCommands("command", at)
        self.start = tuple(start)
        self.rows = as_tuples(rows)

    def __eq__(self, other):
        return isinstance(other, Commands) and self.start == other.start and self.rows == other.rows


def _is_command(many, row):
    if not is_sequence(row) or len(row) == 0 or not isinstance(row[0], str) or row[0] not in ARGUMENTS:
        return False
    names = ARGUMENTS[row[0]]
    if len(row) != len(names) + 1:
        return False
    return all([is_whole(row[at + 1]) and (names[at] == "number" or 0 <= row[at + 1] < many)
                for at in range(len(names))])


def _registers_behind(registers, command):
    behind = list(registers)
    word = command[0]
    if word == "set":
        behind[command[1]] = command[2]
    elif word == "add":
        behind[command[1]] = registers[command[1]] + command[2]
    elif word == "copy":
        behind[command[1]] = registers[command[2]]
    elif word == "swap":
        behind[command[1]] = registers[command[2]]
        behind[command[2]] = registers[command[1]]
    return tuple(behind)


def states_along(commands, log):
    states = [commands.start]
    for value in log:
        states.append(_registers_behind(states[-1], commands.rows[value]))
    return tuple(states)


def folded_state(commands, log):
    return states_along(commands, log)[-1]
