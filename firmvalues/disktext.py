"""Texts of disks and nets."""

from firmvalues.datatext import data_text, read_data, span_of
from firmvalues.errors import BadText
from firmvalues.inputs import is_sequence, is_whole
from firmvalues.keepers import Disk
from firmvalues.letters import Letter
from firmvalues.nets import Net, net_as


def _disk_data(disk):
    return disk.view, disk.heard, disk.stable, disk.told


def disk_text(disk):
    return data_text(_disk_data(disk))


def net_text(net):
    disks = [_disk_data(disk) for disk in net.disks]
    memories = [None if memory is None else _disk_data(memory) for memory in net.memories]
    way = [(letter.sender, letter.receiver, letter.view, letter.told) for letter in net.way]
    return data_text((disks, memories, way, net.sent))


# A form tells what must stand at a place: ("number", many) a whole number below many, or any whole number if many is
# None; ("but", many, number) such a number that is not this one; ("maybe", form) None or what the form tells;
# ("parts", forms) a tuple of just these parts; ("letters", houses, values) a tuple of any number of letters.

def _wrong_path(form, part):
    """The path of the first part that is wrong, None if all of it is right."""
    kind = form[0]
    if kind == "maybe":
        return None if part is None else _wrong_path(form[1], part)
    if kind == "parts":
        return _wrong_among(form[1], part)
    if kind == "letters":
        if not is_sequence(part):
            return ()
        return _wrong_among([_letter_form(form[1], form[2], letter) for letter in part], part)
    return None if _is_number(form, part) else ()


def _wrong_among(forms, part):
    if not is_sequence(part) or len(part) != len(forms):
        return ()
    for at in range(len(forms)):
        path = _wrong_path(forms[at], part[at])
        if path is not None:
            return (at, *path)
    return None


def _is_number(form, part):
    if not is_whole(part, 0) or (form[1] is not None and part >= form[1]):
        return False
    return form[0] == "number" or part != form[2]


def _view_form(houses, values):
    return "parts", (("maybe", ("number", values)),) * houses


def _disk_form(houses, values):
    view = _view_form(houses, values)
    heard = ("parts", (("maybe", view),) * houses)
    return "parts", (view, heard, ("maybe", view), ("maybe", ("number", values)))


def _letter_form(houses, values, letter):
    """The form of this letter: its receiver must not be its sender, whom it names first."""
    sender = letter[0] if is_sequence(letter) and len(letter) > 0 else None
    return "parts", (("number", houses), ("but", houses, sender), _view_form(houses, values),
                     ("maybe", ("number", values)))


def _net_form(houses, values):
    disk = _disk_form(houses, values)
    return "parts", (("parts", (disk,) * houses), ("parts", (("maybe", disk),) * houses),
                     ("letters", houses, values), ("number", None))


def _read_as(form, text):
    """The data that a text tells; BadText where it is not of the form."""
    data = read_data(text)
    path = _wrong_path(form, data)
    if path is not None:
        begin, _ = span_of(text, path)
        raise BadText(begin)
    return data


def read_disk(houses, values, text):
    data = _read_as(_disk_form(houses, values), text)
    return Disk(*data)


def read_net(book, falls, outcomes, manner, text):
    blank = Net(book, falls, outcomes, manner)
    data = _read_as(_net_form(book.n, book.m), text)
    disks = [Disk(*parts) for parts in data[0]]
    memories = [None if parts is None else Disk(*parts) for parts in data[1]]
    return net_as(blank, disks, memories, [Letter(*parts) for parts in data[2]], data[3])
