"""When a view settles the outcome, and the plans by which houses decide."""

from firmvalues.errors import BadManner, NotInBook, Outside
from firmvalues.falls import lot_within, lots_of_size
from firmvalues.inputs import goes_on, heard_houses, is_whole, shown_view, unheard_houses


def check_cell_manner(manner):
    if manner not in ("sure", "cells"):
        raise BadManner(manner)


def _inputs_behind(book, view):
    return [entry for entry in book.inputs if goes_on(view, entry)]


def settled_values(book, outcomes, view):
    return tuple(sorted(set([outcomes.value_of(entry) for entry in _inputs_behind(book, view)])))


def first_view(book, outcomes, view):
    values = settled_values(book, outcomes, view)
    if len(values) == 0:
        raise Outside(view)
    return values[0] if len(values) == 1 else None


def unlike_couple(book, outcomes, view):
    inputs = _inputs_behind(book, view)
    for entry in inputs:
        if outcomes.value_of(entry) != outcomes.value_of(inputs[0]):
            return inputs[0], entry
    return None


def open_view(book, falls, outcomes, view):
    inputs = _inputs_behind(book, view)
    if len(inputs) == 0 or not falls.lets(unheard_houses(view)):
        return None
    return outcomes.value_of(inputs[0])


def told_at(book, falls, outcomes, manner, view):
    check_cell_manner(manner)
    if manner == "cells":
        return open_view(book, falls, outcomes, view)
    try:
        return first_view(book, outcomes, view)
    except Outside:
        return None


def _hearing_lots(houses):
    """All lots but the empty one, by size, then ascending."""
    return [lot for size in range(1, houses + 1) for lot in lots_of_size(houses, size)]


def earliest_lots(book, outcomes, entry):
    if entry not in book:
        raise NotInBook(entry)
    found = []
    for lot in [(), *_hearing_lots(book.n)]:
        if not any([lot_within(smaller, lot) for smaller in found]):
            if len(settled_values(book, outcomes, shown_view(entry, lot))) == 1:
                found.append(lot)
    return tuple(found)


def _rank_of(view):
    """What sorts as views do: None ahead of 0."""
    return tuple([-1 if value is None else value for value in view])


def _in_order(views):
    """Views in their order, without the one that hears nobody."""
    views_at = {_rank_of(view): view for view in views if len(heard_houses(view)) > 0}
    return [views_at[rank] for rank in sorted(views_at)]


def _inputs_by_view(book):
    """For each view that hears a house and goes on to inputs of the book the list of these, ascending."""
    lots = _hearing_lots(book.n)
    found = {}
    for entry in book.inputs:
        for lot in lots:
            found.setdefault(shown_view(entry, lot), []).append(entry)
    return found


def earliest_plan(book, falls, outcomes, manner):
    check_cell_manner(manner)
    inputs_at = _inputs_by_view(book)
    plan = {}
    for view in _in_order(inputs_at):
        values = [outcomes.value_of(entry) for entry in inputs_at[view]]
        told = falls.lets(unheard_houses(view)) if manner == "cells" else min(values) == max(values)
        if told:
            plan[view] = values[0]
    return plan


def judge_plan(book, falls, outcomes, manner, plan):
    check_cell_manner(manner)
    fault = _wrong_view(book, outcomes, plan) if manner == "sure" else _unsafe_view(plan)
    if fault is not None:
        return fault
    for entry in book.inputs:
        for lot in falls.each_lot():
            view = shown_view(entry, [house for house in range(book.n) if house not in lot])
            if view not in plan:
                return "waits", entry, lot
            if plan[view] != outcomes.value_of(entry):
                return "wrong", view, entry
    return None


def _wrong_view(book, outcomes, plan):
    inputs_at = _inputs_by_view(book)
    for view in _in_order(plan):
        for entry in inputs_at.get(view, ()):
            if outcomes.value_of(entry) != plan[view]:
                return "wrong", view, entry
    return None


def _unsafe_view(plan):
    views = _in_order(plan)
    for view in views:
        if plan[view] not in view:
            return "unproposed", view, None
    unlike = {}
    for other in views:
        for view in _views_within(other):
            if view in plan and plan[view] != plan[other]:
                unlike.setdefault(view, []).append(other)
    for view in views:
        if view in unlike:
            return "unlike", view, unlike[view][0]
    return None


def _views_within(view):
    """The views that hear a house and lie within this one; all but itself stand ahead of it in the order of views."""
    heard = heard_houses(view)
    lots = [[heard[at] for at in lot] for lot in _hearing_lots(len(heard))]
    return [shown_view(view, lot) for lot in lots]


def sooner_run(book, outcomes, view, value):
    if is_whole(value) and first_view(book, outcomes, view) == value:
        return None
    for entry in _inputs_behind(book, view):
        if not is_whole(value) or outcomes.value_of(entry) != value:
            heard = heard_houses(view)
            return entry, heard + heard[:1]
    raise Outside(view)
