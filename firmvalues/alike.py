"""Standings that are alike but for hidden seats, and runs that are carried to other inputs."""

from firmvalues.errors import SameHouse, UnlikeHouse
from firmvalues.inputs import as_tuples, is_whole
from firmvalues.standings import checked_step, first_standing, last_standing, unlike_seats
from firmvalues.tables import check_program


def alike_off(one, other, lot):
    if len(one) != len(other):
        return False
    if any([one[house][2] != other[house][2] for house in range(len(one))]):
        return False
    return all([house in lot for house in unlike_seats(one, other)])


def _is_same_house(house, second):
    """A truth is no house, so it is not the same one as 0 or 1."""
    return house == second and isinstance(house, bool) == isinstance(second, bool)


def both_orders(program, standing, house, second):
    if _is_same_house(house, second):
        raise SameHouse(house)
    tables = check_program(program)
    begin = as_tuples(standing)
    behind_house = checked_step(tables, begin, house)
    behind_second = checked_step(tables, begin, second)
    one = checked_step(tables, behind_house, second)
    other = checked_step(tables, behind_second, house)
    if one == other:
        return one, other, None
    return one, other, house if begin[house][0] == "scan" else second


def carry_run(program, entry, run, other):
    tables = check_program(program)
    begin = first_standing(tables, entry)
    carried = first_standing(tables, other)
    moving = [house for house in range(len(tables)) if any([is_whole(step) and step == house for step in run])]
    for house in moving:
        if entry[house] != other[house]:
            raise UnlikeHouse(house)
    return last_standing(tables, begin, run), last_standing(tables, carried, run)
