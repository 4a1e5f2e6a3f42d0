"""Stories: courses of desk deeds, and the desks behind them."""

from firmvalues.datatext import read_data
from firmvalues.desk import Desk
from firmvalues.errors import BadStory, FirmError
from firmvalues.inputs import as_tuples, is_sequence


def desk_from(houses, values, course):
    desk = Desk(houses, values)
    for index in range(len(course)):
        try:
            desk.act(course[index])
        except FirmError:
            raise BadStory(index) from None
    return desk


def straight_course(course):
    kept = []
    for index in range(len(course)):
        deed = as_tuples(course[index])
        if deed != ("back",):
            kept.append(deed)
        elif len(kept) > 0:
            kept.pop()
        else:
            raise BadStory(index)
    return _without_cuts(kept)


def _without_cuts(deeds):
    """The deeds without each cut and the resume behind it; such couples may lie within one another, as brackets do."""
    kept = []
    for deed in deeds:
        if deed == ("resume",) and len(kept) > 0 and kept[-1] == ("cut",):
            kept.pop()
        else:
            kept.append(deed)
    return tuple(kept)


def desk_from_text(houses, values, text):
    course = read_data(text)
    if not is_sequence(course):
        raise BadStory(0)
    return desk_from(houses, values, course)
