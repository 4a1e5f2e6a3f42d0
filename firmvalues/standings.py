"""Standings of a program: for each house what it does next, what it holds and what its cell holds."""

from firmvalues.errors import BadStanding, NoStep
from firmvalues.inputs import as_tuples, check_entry, differing, is_sequence, is_whole
from firmvalues.tables import check_program

NEXT_WORDS = ("write", "scan", "done")


def first_standing(program, entry):
    tables = check_program(program)
    checked = check_entry(len(tables), tables[0].m, entry)
    return tuple([("write", tables[house].start[checked[house]], None) for house in range(len(tables))])


def behind_step(tables, standing, house):
    """The standing behind a step that can be taken; nothing is checked here, as graphs take very many steps."""
    step, held, cell = standing[house]
    if step == "write":
        seat = ("scan", held, held)
    else:
        move = tables[house].next_move(held, cells_beside(standing, house))
        seat = ("done", move[1], cell) if is_sequence(move) else ("write", move, cell)
    return standing[:house] + (seat,) + standing[house + 1:]


def checked_step(tables, standing, house):
    """`behind_step` for any house at all."""
    if not is_whole(house, 0, len(standing) - 1) or standing[house][0] == "done":
        raise NoStep(house)
    return behind_step(tables, standing, house)


def standing_after(program, standing, house):
    tables = check_program(program)
    return checked_step(tables, as_tuples(standing), house)


def trail_of(program, standing, run):
    tables = check_program(program)
    trail = [as_tuples(standing)]
    for house in run:
        trail.append(checked_step(tables, trail[-1], house))
    return tuple(trail)


def last_standing(program, standing, run):
    tables = check_program(program)
    last = as_tuples(standing)
    for house in run:
        last = checked_step(tables, last, house)
    return last


def steppers_of(standing):
    return tuple([house for house in range(len(standing)) if standing[house][0] != "done"])


def decided_by(standing):
    return tuple([held if step == "done" else None for step, held, _ in standing])


def told_in(standing):
    return tuple(sorted(set([held for step, held, _ in standing if step == "done"])))


def cells_beside(standing, house):
    return tuple([standing[other][2] for other in range(len(standing)) if other != house])


def unlike_seats(one, other):
    return differing(as_tuples(one), as_tuples(other))


def check_standing(program, standing):
    tables = check_program(program)
    if not is_sequence(standing) or len(standing) != len(tables):
        raise BadStanding(0, "many")
    for house in range(len(tables)):
        what = _seat_fault(tables[house], standing[house])
        if what is not None:
            raise BadStanding(house, what)
    return as_tuples(standing)


def _seat_fault(table, seat):
    """The first word that tells what is wrong with a seat, None for a right one."""
    if not is_sequence(seat) or len(seat) != 3:
        return "seat"
    step, held, cell = seat
    if step not in NEXT_WORDS:
        return "next"
    holds = table.m if step == "done" else table.states
    if not is_whole(held, 0, holds - 1):
        return "held"
    return None if _is_cell(table, step, held, cell) else "cell"


def _is_cell(table, step, held, cell):
    if cell is None:
        return step == "write"
    return is_whole(cell, 0, table.states - 1) and (step != "scan" or cell == held)
