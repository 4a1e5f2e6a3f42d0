"""A plain second walk of services by the words of part 15, and courses of services."""

import random

from firmvalues.books import book_of
from firmvalues.falls import Falls
from firmvalues.nets import Net
from firmvalues.outcomes import Clash, decide
from firmvalues.service import Service
from agendas import drawn_rule, rule_behind
from courses import Shadow, World, agrees, any_deeds, drawn_deed, end_by, families_for, plain_net, wanted_proposals
from firmvalues.slots import Agenda


class ShadowService:
    """A service that changes: one shadow of a net for each open slot, and what the houses will propose there."""

    def __init__(self, agenda, drawn=None):
        self.agenda, self.drawn = agenda, drawn or random.Random(1)
        self.awake = list(range(agenda.n))
        self.shadows, self.wanted, self.clash = [], [], None
        self.open_next()

    def copy(self):
        other = ShadowService(self.agenda, self.drawn)
        other.awake, other.wanted, other.clash = list(self.awake), list(self.wanted), self.clash
        other.shadows = [shadow.copy() for shadow in self.shadows]
        return other

    def log(self, house):
        log = []
        for shadow in self.shadows:
            if shadow.disks[house]["told"] is None:
                break
            log.append(shadow.disks[house]["told"])
        return tuple(log)

    def logs(self):
        return tuple(self.log(house) for house in range(self.agenda.n))

    def longest(self):
        return max(self.logs(), key=len)

    def open_next(self):
        slot, log = len(self.shadows), self.longest() if self.shadows else ()
        if self.clash is None and slot < len(self.agenda) and len(log) >= slot:
            book = book_of(self.agenda.falls, self.agenda.m, rule_behind(self.agenda, log))
            decided = decide(book, self.agenda.falls, self.agenda.manner)
            if isinstance(decided, Clash):
                self.clash = decided
                return
            world = World(book, self.agenda.falls, decided, self.agenda.manner)
            shadow = Shadow(world)
            for house in range(self.agenda.n):
                if house not in self.awake:
                    shadow.do(("stop", house))
            self.shadows.append(shadow)
            self.wanted.append(wanted_proposals(self.drawn, world))

    def refused(self, deed):
        """The error of a deed of the right form, as `error_of` tells it."""
        if deed[0] != "slot":
            if (deed[0] == "stop") != (deed[1] in self.awake):
                return "NoDeed", "asleep" if deed[0] == "stop" else "awake", deed[1]
            return None
        slot, inner = deed[1:]
        if slot >= len(self.shadows):
            return ("Clashing", slot, self.clash) if self.clash and slot == len(self.shadows) else ("NotOpen", slot)
        shadow, word, house = self.shadows[slot], inner[0], inner[1]
        if word in ("hand", "double", "lose"):
            if inner[1] >= len(shadow.way):
                return "NoDeed", "letter", inner[1]
            house = shadow.way[inner[1]][1] if word == "hand" else None
        if house is not None and len(self.log(house)) < slot:
            return "Behind", house, slot
        refused = shadow.refused(inner)
        if refused:
            return ("NoDeed", *refused)
        if word == "propose" and self.agenda.manner == "sure":
            view = list(shadow.proposals())
            view[house] = inner[2]
            if not any(agrees(view, entry) for entry in shadow.world.book.inputs):
                return "NotOfBook", slot, house, inner[2]
        return None

    def do(self, deed):
        if deed[0] == "slot":
            self.shadows[deed[1]].do(deed[2])
        else:
            for shadow in self.shadows:
                shadow.do(deed)
            self.awake = sorted(set(self.awake) ^ {deed[1]})
        self.open_next()

    def calm(self):
        slot = 0
        while slot < len(self.shadows) and self.awake:
            self.shadows[slot] = end_by(self.shadows[slot])[0]
            if any(self.shadows[slot].disks[house]["told"] is None for house in self.awake):
                return
            self.open_next()
            slot += 1

    def plain(self):
        return tuple(self.awake), tuple(shadow.plain() for shadow in self.shadows), self.clash

    def books(self):
        return [shadow.world.parts() for shadow in self.shadows]


def plain_service(service):
    return service.awake, tuple(plain_net(net) for net in service.nets), service.clash


def books_of(service):
    return [(net.book, net.falls, net.outcomes, net.manner) for net in service.nets]


def service_deed(drawn, shadow, falling=0.08):
    """A deed that is let: mostly in a slot that is not told everywhere."""
    deeds = []
    asleep = [house for house in range(shadow.agenda.n) if house not in shadow.awake]
    if asleep and drawn.random() < 0.3:
        deeds.append(("wake", drawn.choice(asleep)))
    if shadow.awake and drawn.random() < falling:
        deeds.append(("stop", drawn.choice(shadow.awake)))
    for slot, net in enumerate(shadow.shadows):
        for _ in range(3):
            inner = drawn_deed(drawn, net, shadow.wanted[slot], 0) if shadow.awake or net.way else ("stop", 0)
            deed = ("slot", slot, inner)
            if inner[0] not in ("stop", "wake") and shadow.refused(deed) is None:
                deeds.append(deed)
    if not deeds:
        deeds.append(("wake", drawn.choice(asleep)) if asleep else ("stop", drawn.choice(shadow.awake)))
    return drawn.choice(deeds)


def all_service_deeds(agenda, places):
    """All deeds of the right form, with places of letters below this number."""
    inner = [deed for deed in any_deeds(agenda.n, agenda.m, places) if deed[0] not in ("stop", "wake")]
    deeds = [("slot", slot, deed) for slot in range(len(agenda)) for deed in inner]
    return deeds + [(word, house) for word in ("stop", "wake") for house in range(agenda.n)]


def lively_agendas(many, seed, houses=(2, 3, 4), slots=(1, 2, 3), manners=("sure", "letters")):
    """Couples (drawn, agenda), most of which have no clash at slot 0."""
    drawn = random.Random(seed)
    for n in houses:
        families = families_for(n, seed)
        for manner in manners:
            found = 0
            while found < many:
                m = drawn.choice([1, 2, 2, 3]) if n < 4 else 2
                rules = [drawn_rule(drawn, n, m, slot, 0, drawn.random() < 0.4) for slot in range(drawn.choice(slots))]
                if len(rules) > 1 and drawn.random() < 0.6:
                    slot = drawn.randrange(1, len(rules))
                    rules[slot] = ("choose", 0, tuple(drawn.choice([("rule", ("all",)), ("keeps", 0)]) for _ in range(m)))
                lots = [[house] for house in range(n)] if drawn.random() < 0.4 else drawn.choice(families)
                agenda = Agenda(Falls(n, lots), m, manner, rules)
                if ShadowService(agenda).clash is None or drawn.random() < 0.1:
                    found += 1
                    yield drawn, agenda


def drawn_service(drawn, agenda, many, calms=0.03):
    """A course of deeds and calms (None) over so many steps, and the shadow behind it."""
    shadow, course = ShadowService(agenda, drawn), []
    for _ in range(many):
        if drawn.random() < calms:
            shadow.calm()
            course.append(None)
        else:
            deed = service_deed(drawn, shadow)
            shadow.do(deed)
            course.append(deed)
    return course, shadow


def service_of(shadow):
    """The service that stands as a shadow does, made part by part."""
    from courses import net_of
    return Service(shadow.agenda, shadow.awake, [net_of(net) for net in shadow.shadows], shadow.clash)


def blank_nets(shadow):
    return [Net(*world) for world in shadow.books()]
