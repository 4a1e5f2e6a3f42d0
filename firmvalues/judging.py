"""Judges of outcomes and of clashes: they look at one input or at two, and search for nothing."""

from firmvalues.firmness import check_manner, fits
from firmvalues.inputs import is_sequence, is_whole, is_whole_row
from firmvalues.linking import check_meeting, near_inputs, tree_fault
from firmvalues.outcomes import groups_with_values


def judge_outcomes(book, falls, manner, told):
    check_meeting(book, falls)
    check_manner(manner)
    if not is_sequence(told) or len(told) != len(book):
        return "length", None, None
    for at in range(len(told)):
        if not is_whole(told[at], 0, book.m - 1):
            return "value", book.inputs[at], None
    for at in range(len(told)):
        if not fits(falls, manner, book.inputs[at], told[at]):
            return "lacking", book.inputs[at], None
    return _unlike_couple(book, falls, manner, told)


def _unlike_couple(book, falls, manner, told):
    near = near_inputs(book, falls, manner)
    value_of = {book.inputs[at]: told[at] for at in range(len(told))}
    for entry in book.inputs:
        for other in near[entry]:
            # The couples (other, entry) with other ahead of entry were looked at before.
            if value_of[other] != value_of[entry]:
                return "unlike", entry, other
    return None


def judge_clash(book, falls, clash):
    fault = tree_fault(book, falls, clash.manner, clash.tree)
    if fault is not None:
        return fault
    if not is_sequence(clash.fails) or len(clash.fails) != book.m:
        return "fails", 0
    in_tree = {tuple(couple[0]): True for couple in clash.tree}
    for value in range(book.m):
        entry = clash.fails[value]
        if not is_whole_row(entry) or tuple(entry) not in in_tree:
            return "stranger", value
        if fits(falls, clash.manner, tuple(entry), value):
            return "fits", value
    return None


def number_of_way(book, falls, manner, told):
    if judge_outcomes(book, falls, manner, told) is not None:
        return None
    value_of = {book.inputs[at]: told[at] for at in range(len(told))}
    number = 0
    for inputs, values in groups_with_values(book, falls, manner):
        smaller = [value for value in values if value < value_of[inputs[0]]]
        number = number * len(values) + len(smaller)
    return number
