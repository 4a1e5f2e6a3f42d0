"""Courses without stops and wakes: a house that stops is one that is slow, and whose letters are lost."""

from firmvalues.errors import BadDeed, NoDeed, Unwritten
from firmvalues.letters import check_deed
from firmvalues.nets import after_deed, after_deeds, known_disks, net_as


def all_awake(net):
    return net_as(net, net.disks, known_disks(net), net.way, net.sent)


def slow_course(net, deeds):
    for house in net.awake_houses:
        if net.memories[house] != net.disks[house]:
            raise Unwritten(house)
    # From the end to the beginning, as what a house does with a letter depends on whether it writes or stops next.
    stops_next = {}
    slow = []
    for deed, house in reversed(_deeds_with_houses(net, deeds)):
        word = deed[0]
        if word in ("stop", "write"):
            stops_next[house] = word == "stop"
        if word == "hand" and stops_next.get(house, False):
            slow.append(("lose", deed[1]))
        elif word not in ("stop", "wake") and not (word == "propose" and stops_next.get(house, False)):
            slow.append(deed)
    return tuple(reversed(slow))


def _deeds_with_houses(net, deeds):
    """Couples of a deed and the house whose memory it is about, None if it is about none."""
    now = net
    couples = []
    for deed in deeds:
        behind = after_deed(now, deed)
        house = None
        if deed[0] == "hand":
            house = now.way[deed[1]].receiver
        elif deed[0] in ("propose", "write", "stop"):
            house = deed[1]
        couples.append((tuple(deed), house))
        now = behind
    return couples


def judge_slow(net, deeds, slow):
    now = all_awake(net)
    for index in range(len(slow)):
        try:
            deed = check_deed(net.book.n, net.book.m, slow[index])
        except BadDeed:
            return "deed", index
        if deed[0] in ("stop", "wake"):
            return "stop", index
        try:
            now = after_deed(now, deed)
        except NoDeed:
            return "deed", index
    return None if now == all_awake(after_deeds(net, deeds)) else ("end", len(slow))
