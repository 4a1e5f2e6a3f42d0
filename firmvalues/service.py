"""The service: a net for each open slot of an agenda, one slot behind the other."""

from firmvalues.calm import calm_end
from firmvalues.errors import BadDeed, Behind, Clashing, NoDeed, NoHouse, NotOfBook, NotOpen
from firmvalues.inputs import as_tuples, goes_on, is_whole, row_with
from firmvalues.letters import check_deed, first_word
from firmvalues.nets import Net, after_deed, known_disks, refuse_deed
from firmvalues.outcomes import Clash
from firmvalues.registers import folded_state
from firmvalues.slots import book_behind, outcomes_behind

LENGTHS = {"slot": 3, "stop": 2, "wake": 2}


class Service:
    """The houses awake, the nets of the open slots, and the clash of the next slot if it has one."""

    def __init__(self, agenda, awake, nets, clash):
        self.agenda = agenda
        self.awake = as_tuples(awake)
        self.nets = as_tuples(nets)
        self.clash = clash

    def __eq__(self, other):
        return (isinstance(other, Service) and self.agenda == other.agenda and self.awake == other.awake
                and self.nets == other.nets and self.clash == other.clash)


def begun_service(agenda):
    return opened_service(Service(agenda, tuple(range(agenda.n)), (), None))


def opened_service(service):
    """The service with the next slot open, or its clash held, if some log holds all slots ahead of it."""
    agenda = service.agenda
    log = longest_log(service)
    if service.clash is not None or len(service.nets) == len(agenda) or len(log) < len(service.nets):
        return service
    decided = outcomes_behind(agenda, log)
    if isinstance(decided, Clash):
        return Service(agenda, service.awake, service.nets, decided)
    net = Net(book_behind(agenda, log), agenda.falls, decided, agenda.manner)
    for house in range(agenda.n):
        if house not in service.awake:
            net = after_deed(net, ("stop", house))
    return Service(agenda, service.awake, (*service.nets, net), None)


def log_of_house(service, house):
    if not is_whole(house, 0, service.agenda.n - 1):
        raise NoHouse(house)
    log = []
    for net in service.nets:
        told = net.disks[house].told
        if told is None:
            break
        log.append(told)
    return tuple(log)


def all_logs(service):
    return tuple([log_of_house(service, house) for house in range(service.agenda.n)])


def longest_log(service):
    longest = ()
    for log in all_logs(service):
        if len(log) > len(longest):
            longest = log
    return longest


def is_finished(service):
    return len(longest_log(service)) == len(service.agenda)


def check_service_deed(agenda, deed):
    word = first_word(deed, tuple(LENGTHS))
    if word is None:
        raise BadDeed("word")
    if len(deed) != LENGTHS[word]:
        raise BadDeed("length")
    if word != "slot":
        if not is_whole(deed[1], 0, agenda.n - 1):
            raise BadDeed("house")
        return tuple(deed)
    if not is_whole(deed[1], 0, len(agenda) - 1):
        raise BadDeed("slot")
    inner = check_deed(agenda.n, agenda.m, deed[2])
    if inner[0] in ("stop", "wake"):
        raise BadDeed("inner")
    return word, deed[1], inner


def after_service_deed(service, deed):
    checked = check_service_deed(service.agenda, deed)
    if checked[0] == "slot":
        _refuse_inner(service, checked[1], checked[2])
        net = after_deed(service.nets[checked[1]], checked[2])
        return opened_service(_with_net(service, checked[1], net))
    return opened_service(_with_house(service, checked[0], checked[1]))


def _with_net(service, slot, net):
    return Service(service.agenda, service.awake, row_with(service.nets, slot, net), service.clash)


def _with_house(service, word, house):
    """The service behind a stop or a wake, which is done in every net."""
    is_awake = house in service.awake
    if word == "stop" and not is_awake:
        raise NoDeed("asleep", house)
    if word == "wake" and is_awake:
        raise NoDeed("awake", house)
    awake = [other for other in range(service.agenda.n) if (other in service.awake) != (other == house)]
    return Service(service.agenda, awake, [after_deed(net, (word, house)) for net in service.nets], service.clash)


def _refuse_inner(service, slot, deed):
    """Raises what refuses a deed in a slot ahead of the errors of its net."""
    if slot >= len(service.nets):
        if slot == len(service.nets) and service.clash is not None:
            raise Clashing(slot, service.clash)
        raise NotOpen(slot)
    net = service.nets[slot]
    house = deed[1]
    if deed[0] in ("hand", "double", "lose"):
        if deed[1] >= len(net.way):
            raise NoDeed("letter", deed[1])
        house = net.way[deed[1]].receiver
    if deed[0] not in ("double", "lose") and len(log_of_house(service, house)) < slot:
        raise Behind(house, slot)
    if deed[0] == "propose":
        refuse_deed(net, deed)
        if net.manner == "sure" and not _leads_on(net, house, deed[2]):
            raise NotOfBook(slot, house, deed[2])


def _leads_on(net, house, value):
    """True if the values proposed in a net, with this one, go on to an input of its book."""
    known = known_disks(net)
    proposed = tuple([known[other].view[other] for other in range(len(known))])
    view = row_with(proposed, house, value)
    return any([goes_on(view, entry) for entry in net.book.inputs])


def after_service_course(service, course):
    last = service
    for deed in course:
        last = after_service_deed(last, deed)
    return last


def each_service(service, course):
    last = service
    for deed in course:
        last = after_service_deed(last, deed)
        yield last


def calm_service(service):
    last = service
    slot = 0
    while slot < len(last.nets) and len(last.awake) > 0:
        net = calm_end(last.nets[slot]).net
        last = _with_net(last, slot, net)
        if None in [net.told_values[house] for house in last.awake]:
            return last
        last = opened_service(last)
        slot += 1
    return last


def read_at(service, commands, house):
    log = log_of_house(service, house)
    return len(log), folded_state(commands, log)
