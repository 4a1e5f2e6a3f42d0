"""Greatest books, widest families, bridges, and what a view leaves of a book."""

from firmvalues.books import MOST_INPUTS, Book
from firmvalues.errors import BadBook, HasClash
from firmvalues.falls import Falls, lots_of_size
from firmvalues.firmness import check_manner, fitting_values
from firmvalues.inputs import all_inputs
from firmvalues.linking import are_near, check_meeting, is_split, linked_groups, near_inputs
from firmvalues.outcomes import Clash, decide, groups_with_values


def _has_clash(book, falls, manner):
    return isinstance(decide(book, falls, manner), Clash)


def _refuse_clash(book, falls, manner):
    decided = decide(book, falls, manner)
    if isinstance(decided, Clash):
        raise HasClash(decided)


def _inputs_within(book, within):
    if within is not None:
        return within.inputs
    inputs = all_inputs(book.n, book.m)
    if len(inputs) > MOST_INPUTS:
        raise BadBook("many", 0)
    return inputs


def _group_with(groups, falls, manner, split, entry):
    """The group that an input makes of all groups that it is near to, and the groups that stay apart from it."""
    inputs = [entry]
    values = fitting_values(falls, manner, [entry])
    apart = []
    for group in groups:
        if any([are_near(falls, split, entry, other) for other in group[0]]):
            inputs = inputs + group[0]
            values = tuple([value for value in values if value in group[1]])
        else:
            apart.append(group)
    return (inputs, values), apart


def grown_book(book, falls, manner, within=None):
    _refuse_clash(book, falls, manner)
    split = is_split(falls, manner)
    groups = groups_with_values(book, falls, manner)
    made = list(book.inputs)
    for entry in _inputs_within(book, within):
        if entry not in book:
            group, apart = _group_with(groups, falls, manner, split, entry)
            if len(group[1]) > 0:
                made.append(entry)
                groups = [*apart, group]
    return Book(book.n, book.m, made)


def judge_greatest(book, falls, manner, within=None):
    _refuse_clash(book, falls, manner)
    split = is_split(falls, manner)
    groups = groups_with_values(book, falls, manner)
    for entry in _inputs_within(book, within):
        if entry not in book:
            group, _ = _group_with(groups, falls, manner, split, entry)
            if len(group[1]) > 0:
                return entry
    return None


def _lots_to_add(houses):
    return [lot for size in range(1, houses) for lot in lots_of_size(houses, size)]


def _has_parts_let(falls, lot):
    return all([falls.lets([house for house in lot if house != left_out]) for left_out in lot])


def widened_falls(book, falls, manner):
    _refuse_clash(book, falls, manner)
    made = falls
    for lot in _lots_to_add(falls.n):
        if not made.lets(lot) and _has_parts_let(made, lot):
            wider = made.with_lot(lot)
            if not _has_clash(book, wider, manner):
                made = wider
    return made


def judge_widest(book, falls, manner):
    _refuse_clash(book, falls, manner)
    for lot in _lots_to_add(falls.n):
        if not falls.lets(lot) and not _has_clash(book, falls.with_lot(lot), manner):
            return lot
    return None


def greatest_count(book, manner):
    check_manner(manner)
    count = 0
    while count < book.n - 1 and not _has_clash(book, Falls.at_most(book.n, count + 1), manner):
        count += 1
    return count


def find_bridges(book, falls, manner):
    check_meeting(book, falls)
    near = near_inputs(book, falls, manner)
    bridges = []
    for tree in linked_groups(book, falls, manner):
        group = [entry for entry, _ in tree]
        bridges.extend([entry for entry in group if _parts_without(near, group, entry)])
    return tuple(sorted(bridges))


def _parts_without(near, group, entry):
    """True if the other inputs of the group are not all linked without this one."""
    others = [other for other in group if other != entry]
    if len(others) < 2:
        return False
    seen = {entry: True, others[0]: True}
    waiting = [others[0]]
    while len(waiting) > 0 and len(seen) < len(group):
        at = waiting.pop()
        for other in near[at]:
            if other not in seen:
                seen[other] = True
                waiting.append(other)
    return len(seen) < len(group)


def restricted_book(book, view):
    return Book(book.n, book.m, book.going_on(view))
