"""Programs of house tables that follow a plan."""

from firmvalues.deciders import earliest_plan
from firmvalues.tables import HouseTable


def plan_program(houses, values, plan):
    return tuple([_plan_table(houses, values, plan, house) for house in range(houses)])


def _plan_table(houses, values, plan, house):
    """The state of a house is its value, so its cell shows what it proposes."""
    moves = [(view[house], view[:house] + view[house + 1:], ("done", plan[view]))
             for view in plan if view[house] is not None]
    return HouseTable(houses, values, list(range(values)), moves)


def compiled_program(book, falls, outcomes, manner):
    return plan_program(book.n, book.m, earliest_plan(book, falls, outcomes, manner))
