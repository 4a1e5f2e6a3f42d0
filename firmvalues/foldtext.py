"""Texts of data in rows of a width."""

from firmvalues.datatext import check_data, data_text
from firmvalues.errors import BadWidth
from firmvalues.inputs import is_whole


def folded_text(data, width):
    checked = check_data(data)
    if not is_whole(width, 20, 200):
        raise BadWidth()
    return "\n".join(_rows_of(checked, width, "", ""))


def _rows_of(part, width, indent, after):
    """The rows of a part of which `after` must follow on the last one."""
    row = indent + data_text(part) + after
    if len(row) <= width or not _is_foldable(part):
        return [row]
    first = "("
    rest = part
    if not isinstance(part[0], tuple):
        first = "(" + data_text(part[0])
        rest = part[1:]
    rows = [indent + first]
    for at in range(len(rest)):
        ends = at == len(rest) - 1
        rows.extend(_rows_of(rest[at], width, indent + "  ", ")" + after if ends else ""))
    return rows


def _is_foldable(part):
    """A tuple of one atom alone is no more foldable than an atom."""
    if not isinstance(part, tuple) or len(part) == 0:
        return False
    return len(part) > 1 or isinstance(part[0], tuple)


def greatest_width(text):
    return max([len(row) for row in text.split("\n")])
