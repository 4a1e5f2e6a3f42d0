"""Nets: houses that send letters, which come late, in any order, twice or never."""

from firmvalues.errors import BadManner, NoDeed
from firmvalues.firmness import NET_MANNERS
from firmvalues.inputs import check_view, heard_houses, row_with
from firmvalues.keepers import blank_disk, disk_with_letter, disk_with_value, looked_disk
from firmvalues.letters import Letter, check_deed


class Net:
    """Where the houses and their letters stand; a deed makes another net."""

    def __init__(self, book, falls, outcomes, manner):
        if manner not in NET_MANNERS:
            raise BadManner(manner)
        self.book = book
        self.falls = falls
        self.outcomes = outcomes
        self.manner = manner
        self.disks = (blank_disk(book.n),) * book.n
        self.memories = self.disks
        self.way = ()
        self.sent = 0

    def __eq__(self, other):
        return (isinstance(other, Net) and self.book == other.book and self.falls == other.falls
                and self.outcomes == other.outcomes and self.manner == other.manner and self.disks == other.disks
                and self.memories == other.memories and self.way == other.way and self.sent == other.sent)

    def __len__(self):
        return len(self.way)

    def __iter__(self):
        return iter(self.way)

    @property
    def told_values(self):
        return tuple([disk.told for disk in self.disks])

    @property
    def awake_houses(self):
        return tuple([house for house in range(len(self.memories)) if self.memories[house] is not None])


def net_as(net, disks, memories, way, sent):
    """A net over the same book, family and outcomes that stands as told."""
    other = Net(net.book, net.falls, net.outcomes, net.manner)
    other.disks = tuple(disks)
    other.memories = tuple(memories)
    other.way = tuple(way)
    other.sent = sent
    return other


def known_disks(net):
    """For each house its memory, or the disk of a house that is asleep."""
    return tuple([net.disks[house] if net.memories[house] is None else net.memories[house]
                  for house in range(len(net.disks))])


def written_disk(net, house):
    """What stands on the disk of a house behind a write."""
    return looked_disk(net.memories[house], house, net.book, net.falls, net.outcomes, net.manner)


def letter_of(net, sender, receiver):
    disk = net.disks[sender]
    return Letter(sender, receiver, disk.view, disk.told)


def after_deed(net, deed):
    checked = check_deed(net.book.n, net.book.m, deed)
    refuse_deed(net, checked)
    if checked[0] in ("hand", "double", "lose"):
        return _behind_letter(net, checked[0], checked[1])
    if checked[0] == "send":
        return net_as(net, net.disks, net.memories, (*net.way, letter_of(net, checked[1], checked[2])), net.sent + 1)
    return _behind_house(net, checked[0], checked[1], checked[-1])


def refuse_deed(net, deed):
    """Raises NoDeed for a deed of the right form that cannot be done now."""
    word = deed[0]
    at = deed[1]
    if word in ("hand", "double", "lose"):
        if at >= len(net.way):
            raise NoDeed("letter", at)
        if word == "hand":
            _refuse_asleep(net, net.way[at].receiver)
    elif word == "wake":
        if net.memories[at] is not None:
            raise NoDeed("awake", at)
    else:
        if word == "send" and at == deed[2]:
            raise NoDeed("self", at)
        _refuse_asleep(net, at)
        if word == "propose" and net.memories[at].view[at] is not None:
            raise NoDeed("proposed", at)


def _refuse_asleep(net, house):
    if net.memories[house] is None:
        raise NoDeed("asleep", house)


def _behind_letter(net, word, at):
    letter = net.way[at]
    if word == "double":
        return net_as(net, net.disks, net.memories, (*net.way, letter), net.sent)
    memories = net.memories
    if word == "hand":
        house = letter.receiver
        memories = row_with(memories, house, disk_with_letter(memories[house], letter))
    return net_as(net, net.disks, memories, net.way[:at] + net.way[at + 1:], net.sent)


def _behind_house(net, word, house, value):
    disks = net.disks
    memory = None
    if word == "propose":
        memory = disk_with_value(net.memories[house], house, value)
    elif word == "write":
        memory = written_disk(net, house)
        disks = row_with(disks, house, memory)
    elif word == "wake":
        memory = disks[house]
    return net_as(net, disks, row_with(net.memories, house, memory), net.way, net.sent)


def after_deeds(net, deeds):
    last = net
    for deed in deeds:
        last = after_deed(last, deed)
    return last


def net_steps(net, deeds):
    last = net
    for deed in deeds:
        last = after_deed(last, deed)
        yield last


def proposed_net(book, falls, outcomes, manner, view):
    net = Net(book, falls, outcomes, manner)
    checked = check_view(book.n, book.m, view)
    deeds = []
    for house in heard_houses(checked):
        deeds.extend([("propose", house, checked[house]), ("write", house)])
    return after_deeds(net, deeds)
