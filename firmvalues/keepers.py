"""Disks: what one house knows, and the keepers of its view."""

from firmvalues.deciders import open_view, told_at
from firmvalues.inputs import as_tuples, join_views, row_with


class Disk:
    """The view of a house, what it heard from each other house, its last stable view and its outcome."""

    def __init__(self, view, heard, stable, told):
        self.view = as_tuples(view)
        self.heard = as_tuples(heard)
        self.stable = as_tuples(stable)
        self.told = told

    def __eq__(self, other):
        return (isinstance(other, Disk) and self.view == other.view and self.heard == other.heard
                and self.stable == other.stable and self.told == other.told)


def blank_disk(houses):
    nothing = (None,) * houses
    return Disk(nothing, nothing, None, None)


def disk_with_value(disk, house, value):
    return Disk(row_with(disk.view, house, value), disk.heard, disk.stable, disk.told)


def disk_with_letter(disk, letter):
    sender = letter.sender
    before = disk.heard[sender]
    heard = letter.view if before is None else join_views(before, letter.view)
    told = letter.told if disk.told is None else disk.told
    return Disk(join_views(disk.view, letter.view), row_with(disk.heard, sender, heard), disk.stable, told)


def keepers_of(disk, house):
    return tuple([other for other in range(len(disk.heard)) if other == house or disk.heard[other] == disk.view])


def looked_disk(disk, house, book, falls, outcomes, manner):
    is_stable = falls.is_quorum(keepers_of(disk, house))
    told = disk.told
    if told is None and manner == "sure":
        told = told_at(book, falls, outcomes, manner, disk.view)
    elif told is None and is_stable:
        told = open_view(book, falls, outcomes, disk.view)
    return Disk(disk.view, disk.heard, disk.view if is_stable else disk.stable, told)
