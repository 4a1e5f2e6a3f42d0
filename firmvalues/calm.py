"""Calm rounds: all awake houses write and send to one another, and every letter to them is handed."""

from firmvalues.keepers import disk_with_letter
from firmvalues.nets import letter_of, net_as, written_disk


class Calm:
    """The net behind the last round, the number of rounds and of the letters sent in them."""

    def __init__(self, net, rounds, sent):
        self.net = net
        self.rounds = rounds
        self.sent = sent

    def __eq__(self, other):
        return (isinstance(other, Calm) and self.net == other.net and self.rounds == other.rounds
                and self.sent == other.sent)


def calm_round(net):
    now = _with_all_written(net)
    awake = now.awake_houses
    letters = [letter_of(now, sender, receiver) for sender in awake for receiver in awake if sender != receiver]
    memories = list(now.memories)
    kept = []
    for letter in (*now.way, *letters):
        if memories[letter.receiver] is None:
            kept.append(letter)
        else:
            memories[letter.receiver] = disk_with_letter(memories[letter.receiver], letter)
    return net_as(now, now.disks, memories, kept, now.sent + len(letters))


def _with_all_written(net):
    disks = list(net.disks)
    memories = list(net.memories)
    for house in net.awake_houses:
        disks[house] = written_disk(net, house)
        memories[house] = disks[house]
    return net_as(net, disks, memories, net.way, net.sent)


def calm_end(net):
    before = net
    behind = calm_round(before)
    rounds = 1
    while behind.disks != before.disks or behind.memories != before.memories:
        before = behind
        behind = calm_round(before)
        rounds += 1
    return Calm(behind, rounds, behind.sent - net.sent)
