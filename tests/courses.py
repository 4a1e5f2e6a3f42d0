"""Nets of all kinds, courses over them, and a plain second walk of nets by the words of part 13."""

import itertools
import random

from firmvalues.books import Book
from firmvalues.falls import Falls
from firmvalues.keepers import Disk
from firmvalues.letters import Letter
from firmvalues.nets import Net
from firmvalues.outcomes import Outcomes, decide
from reckon import inputs_of, let_by, some_families

WORDS = ("propose", "write", "send", "hand", "double", "lose", "stop", "wake")
COVERED = {2: ((0,), (1,)), 3: ((0, 1), (2,)), 4: ((0, 1), (1, 2, 3)), 5: ((0, 1, 2), (2, 3, 4))}


def agrees(view, entry):
    return all(value is None or value == entry[house] for house, value in enumerate(view))


def joined(one, other):
    return tuple(a if b is None else b for a, b in zip(one, other))


def within(one, other):
    return all(a is None or a == b for a, b in zip(one, other))


class World:
    """What a net stands over, and a plain way to reckon with it."""

    def __init__(self, book, falls, outcomes, manner):
        self.book, self.falls, self.outcomes, self.manner = book, falls, outcomes, manner
        self.n = book.n
        self.let = let_by(book.n, falls.lots)
        self.told = dict(zip(outcomes.inputs, outcomes.told))
        self.found = {}

    def parts(self):
        return self.book, self.falls, self.outcomes, self.manner

    def net(self):
        return Net(*self.parts())

    def inputs_behind(self, view):
        if view not in self.found:
            self.found[view] = [entry for entry in self.book.inputs if agrees(view, entry)]
        return self.found[view]

    def settles(self, view):
        """The one outcome of all inputs that go on a view; None if there are no such inputs, or two outcomes."""
        values = {self.told[entry] for entry in self.inputs_behind(view)}
        return values.pop() if len(values) == 1 else None

    def opens(self, view):
        missing = frozenset(house for house, value in enumerate(view) if value is None)
        inputs = self.inputs_behind(view)
        return self.told[inputs[0]] if inputs and missing in self.let else None

    def is_quorum(self, houses):
        return frozenset(range(self.n)) - frozenset(houses) in self.let


class Shadow:
    """A net that changes: for each house the parts of its disk and of its memory as dicts, letters as tuples."""

    def __init__(self, world):
        self.world = world
        blank = {"view": (None,) * world.n, "heard": (None,) * world.n, "stable": None, "told": None}
        self.disks = [dict(blank) for _ in range(world.n)]
        self.memories = [dict(blank) for _ in range(world.n)]
        self.way = []
        self.sent = 0

    def copy(self):
        other = Shadow(self.world)
        other.disks = [dict(disk) for disk in self.disks]
        other.memories = [memory and dict(memory) for memory in self.memories]
        other.way, other.sent = list(self.way), self.sent
        return other

    def refused(self, deed):
        """Why a deed of the right form cannot be done now."""
        word, at = deed[0], deed[1]
        if word in ("hand", "double", "lose"):
            if at >= len(self.way):
                return "letter", at
            receiver = self.way[at][1]
            return ("asleep", receiver) if word == "hand" and self.memories[receiver] is None else None
        if word == "wake":
            return ("awake", at) if self.memories[at] is not None else None
        if word == "send" and deed[1] == deed[2]:
            return "self", at
        if self.memories[at] is None:
            return "asleep", at
        if word == "propose" and self.memories[at]["view"][at] is not None:
            return "proposed", at
        return None

    def keepers(self, disk, house):
        return [other for other in range(self.world.n) if other == house or disk["heard"][other] == disk["view"]]

    def looked(self, house):
        world, memory = self.world, dict(self.memories[house])
        stable = world.is_quorum(self.keepers(memory, house))
        if stable:
            memory["stable"] = memory["view"]
        if memory["told"] is None:
            if world.manner == "sure":
                memory["told"] = world.settles(memory["view"])
            elif stable:
                memory["told"] = world.opens(memory["view"])
        return memory

    def do(self, deed):
        word, at = deed[0], deed[1]
        if word == "propose":
            view = list(self.memories[at]["view"])
            view[at] = deed[2]
            self.memories[at]["view"] = tuple(view)
        elif word == "write":
            self.disks[at] = self.looked(at)
            self.memories[at] = dict(self.disks[at])
        elif word == "send":
            self.way.append((at, deed[2], self.disks[at]["view"], self.disks[at]["told"]))
            self.sent += 1
        elif word == "hand":
            self.hear(self.way.pop(at))
        elif word == "double":
            self.way.append(self.way[at])
        elif word == "lose":
            self.way.pop(at)
        elif word == "stop":
            self.memories[at] = None
        elif word == "wake":
            self.memories[at] = dict(self.disks[at])

    def hear(self, letter):
        sender, receiver, view, told = letter
        memory = self.memories[receiver]
        memory["view"] = joined(memory["view"], view)
        heard = list(memory["heard"])
        heard[sender] = view if heard[sender] is None else joined(heard[sender], view)
        memory["heard"] = tuple(heard)
        if memory["told"] is None:
            memory["told"] = told

    def awake(self):
        return tuple(house for house in range(self.world.n) if self.memories[house] is not None)

    def proposals(self):
        return tuple((self.memories[h] or self.disks[h])["view"][h] for h in range(self.world.n))

    def plain(self):
        """All that a net tells: its parts as nested tuples, then its properties, length and letters."""
        letters = tuple(self.way)
        return (tuple(disk_parts(disk) for disk in self.disks),
                tuple(memory and disk_parts(memory) for memory in self.memories), letters, self.sent,
                tuple(disk["told"] for disk in self.disks), self.awake(), len(letters), letters)


def disk_parts(disk):
    return disk["view"], disk["heard"], disk["stable"], disk["told"]


def as_parts(disk):
    """The parts of a Disk, None for None."""
    return None if disk is None else (disk.view, disk.heard, disk.stable, disk.told)


def letter_parts(letter):
    return letter.sender, letter.receiver, letter.view, letter.told


def plain_net(net):
    return (tuple(map(as_parts, net.disks)), tuple(map(as_parts, net.memories)), tuple(map(letter_parts, net.way)),
            net.sent, net.told_values, net.awake_houses, len(net), tuple(letter_parts(letter) for letter in net))


def net_of(shadow):
    """The net that stands as the shadow does, made part by part."""
    net = shadow.world.net()
    net.disks = tuple(Disk(*disk_parts(disk)) for disk in shadow.disks)
    net.memories = tuple(memory and Disk(*disk_parts(memory)) for memory in shadow.memories)
    net.way = tuple(Letter(*letter) for letter in shadow.way)
    net.sent = shadow.sent
    return net


def families_for(n, seed):
    """Families with and without two covering lots, with a sure house, with nothing let."""
    drawn = random.Random(seed)
    return [*some_families(n, 16, drawn.randrange(99)), COVERED[n], (), ((0,),)]


def worlds_of_nets(many, seed, houses=(2, 3, 4, 5), manners=("sure", "letters"), right=True):
    """Couples (drawn, World): outcomes right for the manner, sometimes with more inputs than the book."""
    drawn = random.Random(seed)
    for n in houses:
        families = families_for(n, seed)
        for manner in manners:
            found = 0
            while found < many:
                m = drawn.choice([1, 2, 2, 3, 4])
                inputs = inputs_of(n, m)
                some = drawn.sample(inputs, drawn.randint(0, min(drawn.choice([4, 12, 40]), len(inputs))))
                falls = Falls(n, drawn.choice(families))
                outcomes = decide(Book(n, m, some), falls, manner if right else "sure", drawn.sample(range(m), m))
                if isinstance(outcomes, Outcomes):
                    found += 1
                    held = drawn.sample(some, drawn.choice([len(some), len(some) * 3 // 4]))
                    yield drawn, World(Book(n, m, held), falls, outcomes, manner)


def wanted_proposals(drawn, world):
    """The values that the houses will propose: an input of the book if there is one, in letters any other one too."""
    if len(world.book) and (world.manner == "sure" or drawn.random() < 0.6):
        return drawn.choice(world.book.inputs)
    return drawn.choice(inputs_of(world.n, world.book.m))


def drawn_deed(drawn, shadow, wanted, falling=0.1):
    """A deed that is let: mostly what brings the houses on, sometimes what hinders them."""
    n, awake = shadow.world.n, shadow.awake()
    asleep = [house for house in range(n) if house not in awake]
    kinds = []
    if asleep:
        kinds += [("wake", drawn.choice(asleep))] * 2
    if awake:
        house = drawn.choice(awake)
        if drawn.random() < falling:
            kinds.append(("stop", house))
        kinds += [("write", house)] * 2 + [("send", house, drawn.choice([other for other in range(n) if other != house]))] * 2
        new = [other for other in awake if shadow.memories[other]["view"][other] is None]
        if new:
            other = drawn.choice(new)
            kinds += [("propose", other, wanted[other])] * 3
    if shadow.way:
        at = drawn.randrange(len(shadow.way))
        kinds += [("double", at), ("lose", at)] if drawn.random() < 0.3 else []
        if shadow.memories[shadow.way[at][1]] is not None:
            kinds += [("hand", at)] * 5
    return drawn.choice(kinds)


def drawn_course(drawn, world, many, falling=0.1):
    """A course of so many deeds that a new net takes, and the shadow behind it."""
    shadow, wanted, course = Shadow(world), wanted_proposals(drawn, world), []
    for _ in range(many):
        deed = drawn_deed(drawn, shadow, wanted, falling)
        shadow.do(deed)
        course.append(deed)
    return course, shadow


def any_deeds(n, m, places):
    """All deeds of the right form, with places of letters below this number."""
    houses = range(n)
    deeds = [("propose", house, value) for house in houses for value in range(m)]
    deeds += [(word, house) for word in ("write", "stop", "wake") for house in houses]
    deeds += [("send", one, other) for one, other in itertools.product(houses, houses)]
    return deeds + [(word, at) for word in ("hand", "double", "lose") for at in range(places)]


def round_by(shadow):
    """One round, deed by deed, on another shadow."""
    shadow = shadow.copy()
    awake = shadow.awake()
    for house in awake:
        shadow.do(("write", house))
    for sender in awake:
        for receiver in awake:
            if sender != receiver:
                shadow.do(("send", sender, receiver))
    at = 0
    while at < len(shadow.way):
        if shadow.way[at][1] in awake:
            shadow.do(("hand", at))
        else:
            at += 1
    return shadow


def end_by(shadow):
    rounds, before = 1, shadow
    behind = round_by(before)
    while (behind.disks, behind.memories) != (before.disks, before.memories):
        rounds, before = rounds + 1, behind
        behind = round_by(before)
    return behind, rounds
