"""Texts of services."""

from firmvalues.datatext import data_text, read_data
from firmvalues.disktext import net_text, read_net
from firmvalues.errors import BadLot, BadText, UnreadService
from firmvalues.falls import check_lot
from firmvalues.inputs import row_with
from firmvalues.service import Service, opened_service


def service_text(service):
    return "\n".join([data_text(service.awake)] + [net_text(net) for net in service.nets])


def read_service(agenda, text):
    if not isinstance(text, str):
        raise UnreadService()
    rows = text.split("\n")
    service = opened_service(Service(agenda, _read_awake(agenda, rows[0]), (), None))
    for slot in range(len(rows) - 1):
        # Each slot is opened behind the net ahead of it; one that is not open has no net to be read.
        if slot == len(service.nets):
            raise UnreadService()
        service = opened_service(_with_net_read(service, slot, rows[slot + 1]))
    # A text that is not the canonical one, or that leaves out the net of an open slot, is no text of a service.
    if service_text(service) != text:
        raise UnreadService()
    return service


def _read_awake(agenda, row):
    try:
        return check_lot(agenda.n, read_data(row))
    except (BadText, BadLot):
        raise UnreadService() from None


def _with_net_read(service, slot, row):
    blank = service.nets[slot]
    try:
        net = read_net(blank.book, blank.falls, blank.outcomes, blank.manner, row)
    except BadText:
        raise UnreadService() from None
    if net.awake_houses != service.awake:
        raise UnreadService()
    return Service(service.agenda, service.awake, row_with(service.nets, slot, net), service.clash)
