"""House tables: what one house does over common cells."""

from firmvalues.errors import BadProgram, BadTable
from firmvalues.inputs import as_tuples, check_leading, each_row, is_sequence, is_whole

MOST_STATES = 40
MOST_VALUES = 4
MOST_MOVES = 20000
MOST_HOUSES = 5


class HouseTable:
    def __init__(self, houses, states, start, moves=()):
        _check_frame(houses, states, start)
        if not is_sequence(moves) or len(moves) > MOST_MOVES:
            raise BadTable(0, "moves")
        self.n = houses
        self.m = len(start)
        self.states = states
        self.start = tuple(start)
        self.moves = _kept_moves(houses, states, self.m, moves)
        self._move_at = {(state, others): move for state, others, move in self.moves}

    def __eq__(self, other):
        return (isinstance(other, HouseTable) and self.n == other.n and self.states == other.states
                and self.start == other.start and self.moves == other.moves)

    def next_move(self, state, others):
        return self._move_at.get((state, tuple(others)), state)


def _check_frame(houses, states, start):
    if not is_whole(houses, 2, MOST_HOUSES):
        raise BadTable(0, "houses")
    if not is_whole(states, 1, MOST_STATES):
        raise BadTable(0, "states")
    if not is_sequence(start) or not 1 <= len(start) <= MOST_VALUES:
        raise BadTable(0, "start")
    for index in range(len(start)):
        if not is_whole(start[index], 0, states - 1):
            raise BadTable(index, "start")


def _is_row(houses, others):
    if not is_sequence(others) or len(others) != houses - 1:
        return False
    return all([cell is None or is_whole(cell, 0, MOST_STATES - 1) for cell in others])


def _is_move(states, values, move):
    if not is_sequence(move):
        return is_whole(move, 0, states - 1)
    return len(move) == 2 and move[0] == "done" and is_whole(move[1], 0, values - 1)


def _place_of(state, others):
    """What sorts as the entries do: None ahead of 0."""
    return state, tuple([-1 if cell is None else cell for cell in others])


def _kept_moves(houses, states, values, moves):
    """The entries that change something, in their order."""
    found = {}
    for index in range(len(moves)):
        what = _entry_fault(houses, states, values, moves[index], found)
        if what is not None:
            raise BadTable(index, what)
        state, others, move = as_tuples(moves[index])
        found[_place_of(state, others)] = (state, others, move)
    return tuple([found[place] for place in sorted(found) if found[place][2] != place[0]])


def _entry_fault(houses, states, values, row, found):
    """The first word that tells what is wrong with an entry behind the right ones found so far."""
    if not is_sequence(row) or len(row) != 3:
        return "entry"
    if not is_whole(row[0], 0, states - 1):
        return "state"
    if not _is_row(houses, row[1]):
        return "others"
    if not _is_move(states, values, row[2]):
        return "move"
    if _place_of(row[0], row[1]) in found:
        return "twice"
    return None


def other_rows(houses, states):
    signs = (None,) + tuple(range(states))
    others = houses - 1
    yield from each_row(signs, others)


def _check_places(houses, states, start):
    """Returns the number of places of a table of which every place is told."""
    _check_frame(houses, states, start)
    many = states
    for _ in range(houses - 1):
        many = many * (states + 1)
    if many > MOST_MOVES:
        raise BadTable(0, "rows")
    return many


def _all_places(houses, states):
    return [(state, others) for state in range(states) for others in other_rows(houses, states)]


def dense_table(houses, states, start, rows):
    many = _check_places(houses, states, start)
    if not is_sequence(rows) or len(rows) != many:
        raise BadTable(0, "rows")
    places = _all_places(houses, states)
    # The entries stand in the order of the rows, so the table tells the first one that is no move by its place.
    return HouseTable(houses, states, start, [(*places[index], rows[index]) for index in range(many)])


def table_of(houses, states, start, rule):
    _check_places(houses, states, start)
    # An answer is copied at once: the rule may give the same list again with other items.
    rows = [as_tuples(rule(state, others)) for state, others in _all_places(houses, states)]
    return dense_table(houses, states, start, rows)


def check_program(program):
    if not is_sequence(program) or not 2 <= len(program) <= MOST_HOUSES:
        raise BadProgram(0, "many")
    for house in range(len(program)):
        table = program[house]
        if not isinstance(table, HouseTable):
            raise BadProgram(house, "table")
        if table.n != len(program):
            raise BadProgram(house, "houses")
        if table.m != program[0].m:
            raise BadProgram(house, "values")
    return tuple(program)


def led_program(program, order, names):
    tables = check_program(program)
    order, names = check_leading(len(tables), tables[0].m, order, names)
    led = [None] * len(tables)
    for house in range(len(tables)):
        led[order[house]] = _led_table(tables[house], house, order, names)
    return tuple(led)


def _led_table(table, house, order, names):
    start = [None] * table.m
    for value in range(table.m):
        start[names[value]] = table.start[value]
    moves = [(state, _led_cells(others, house, order), _led_move(move, names)) for state, others, move in table.moves]
    return HouseTable(table.n, table.states, start, moves)


def _led_cells(others, house, order):
    """The cells by the new numbers of their houses; those given are of the other houses, ascending."""
    houses = [other for other in range(len(order)) if other != house]
    cells = {order[houses[at]]: others[at] for at in range(len(houses))}
    return [cells[other] for other in sorted(cells)]


def _led_move(move, names):
    return ("done", names[move[1]]) if is_sequence(move) else move
