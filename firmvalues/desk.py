"""The desk: one page that holds a family, an agenda, a service and a program, and deeds that turn it."""

from firmvalues.books import book_of
from firmvalues.breaking import break_program
from firmvalues.errors import BadCommands, BadDesk, BadDeskDeed, BadManner, FirmError, UnlikeValues
from firmvalues.errors import NoCommands, NoProgram, NoService, NotStarted, NothingCut, NothingDone
from firmvalues.falls import Falls
from firmvalues.firmness import check_manner
from firmvalues.inputs import as_tuples, is_sequence, is_whole
from firmvalues.letters import first_word
from firmvalues.outcomes import Clash, decide
from firmvalues.registers import Commands
from firmvalues.service import after_service_deed, all_logs, begun_service, calm_service, read_at
from firmvalues.servicetext import read_service, service_text
from firmvalues.slots import Agenda, check_slot_rules, has_too_many, plain_rule
from firmvalues.standings import decided_by, first_standing, standing_after
from firmvalues.tables import HouseTable
from firmvalues.verdicts import judge_program


class Page:
    """All that a desk holds."""

    def __init__(self, n, m, falls, manner, rules, commands, service, program, standing, text):
        self.n = n
        self.m = m
        self.falls = falls
        self.manner = manner
        self.rules = as_tuples(rules)
        self.commands = commands
        self.service = service
        self.program = as_tuples(program)
        self.standing = as_tuples(standing)
        self.text = text

    def __eq__(self, other):
        return (isinstance(other, Page) and self.n == other.n and self.m == other.m and self.falls == other.falls
                and self.manner == other.manner and self.rules == other.rules and self.commands == other.commands
                and self.service == other.service and self.program == other.program
                and self.standing == other.standing and self.text == other.text)


class Trial:
    """The answers up to the first deed that was refused, and its index, None if there was none."""

    def __init__(self, answers, refused):
        self.answers = as_tuples(answers)
        self.refused = refused

    def __eq__(self, other):
        return isinstance(other, Trial) and self.answers == other.answers and self.refused == other.refused


def begun_page(houses, values):
    if not is_whole(houses, 2, 5):
        raise BadDesk("houses")
    if not is_whole(values, 1, 4):
        raise BadDesk("values")
    if has_too_many(houses, values):
        raise BadDesk("many")
    return Page(houses, values, Falls(houses, ()), "letters", (("rule", ("all",)),), None, None, None, None, None)


def _twin_of_page(page):
    """A page like this one, which is filled in before anybody else sees it."""
    return Page(page.n, page.m, page.falls, page.manner, page.rules, page.commands, page.service, page.program,
                page.standing, page.text)


def _with_service(page, service, text):
    behind = _twin_of_page(page)
    behind.service = service
    behind.text = text
    return behind


def _with_standing(page, standing):
    behind = _twin_of_page(page)
    behind.standing = standing
    return behind, ("told", decided_by(standing))


def _agenda_of(page):
    return Agenda(page.falls, page.m, page.manner, page.rules)


def _service_of(page):
    if page.service is None:
        raise NoService()
    return page.service


def _do_falls(page, deed):
    behind = _with_service(page, None, None)
    behind.falls = Falls(page.n, deed[1])
    return behind, ("falls", behind.falls.lots)


def _do_manner(page, deed):
    behind = _with_service(page, None, None)
    behind.manner = check_manner(deed[1])
    return behind, ("manner", behind.manner)


def _do_slots(page, deed):
    behind = _with_service(page, None, None)
    behind.rules = check_slot_rules(page.n, page.m, deed[1])
    return behind, ("slots", len(behind.rules))


def _do_commands(page, deed):
    behind = _twin_of_page(page)
    behind.commands = Commands(deed[1], deed[2])
    return behind, ("commands", len(behind.commands.start))


def _do_begin(page, _):
    service = begun_service(_agenda_of(page))
    return _with_service(page, service, None), ("begin", len(service.nets))


def _do_service(page, deed):
    service = after_service_deed(_service_of(page), deed[1])
    return _with_service(page, service, page.text), ("logs", all_logs(service))


def _do_calm(page, _):
    service = calm_service(_service_of(page))
    return _with_service(page, service, page.text), ("logs", all_logs(service))


def _do_read(page, deed):
    service = _service_of(page)
    if page.commands is None:
        raise NoCommands()
    if len(page.commands.rows) != page.m:
        raise BadCommands("rows", 0)
    length, registers = read_at(service, page.commands, deed[1])
    return page, ("read", length, registers)


def _do_cut(page, _):
    service = _service_of(page)
    return _with_service(page, None, service_text(service)), ("cut", len(service.nets))


def _do_resume(page, _):
    if page.text is None:
        raise NothingCut()
    service = read_service(_agenda_of(page), page.text)
    return _with_service(page, service, None), ("logs", all_logs(service))


def _do_program(page, deed):
    tables = deed[1]
    if not is_sequence(tables) or len(tables) != page.n:
        raise BadDeskDeed("tables")
    if not all([is_sequence(table) and len(table) == 3 for table in tables]):
        raise BadDeskDeed("tables")
    program = tuple([HouseTable(page.n, states, start, moves) for states, start, moves in tables])
    if not all([table.m == page.m for table in program]):
        raise UnlikeValues()
    behind = _twin_of_page(page)
    behind.program = program
    behind.standing = None
    return behind, ("program", tuple([table.states for table in program]))


def _program_of(page):
    if page.program is None:
        raise NoProgram()
    return page.program


def _do_entry(page, deed):
    return _with_standing(page, first_standing(_program_of(page), deed[1]))


def _do_step(page, deed):
    if page.standing is None:
        raise NotStarted()
    return _with_standing(page, standing_after(page.program, page.standing, deed[1]))


def _first_book(page):
    """The book of slot 0, for a program that is judged over it."""
    if page.manner == "letters":
        raise BadManner(page.manner)
    return book_of(page.falls, page.m, plain_rule(page.rules[0], ()))


def _do_judge(page, _):
    program = _program_of(page)
    return page, ("judge", judge_program(program, _first_book(page), page.falls, page.manner))


def _do_break(page, _):
    program = _program_of(page)
    book = _first_book(page)
    decided = decide(book, page.falls, page.manner)
    if isinstance(decided, Clash):
        return page, ("broken", break_program(program, book, page.falls, decided))
    return page, ("outcomes", decided.told)


LENGTHS = {"falls": 2, "manner": 2, "slots": 2, "commands": 3, "begin": 1, "service": 2, "calm": 1, "read": 2, "cut": 1,
           "resume": 1, "program": 2, "entry": 2, "step": 2, "judge": 1, "break": 1}
ACTIONS = {"falls": _do_falls, "manner": _do_manner, "slots": _do_slots, "commands": _do_commands, "begin": _do_begin,
           "service": _do_service, "calm": _do_calm, "read": _do_read, "cut": _do_cut, "resume": _do_resume,
           "program": _do_program, "entry": _do_entry, "step": _do_step, "judge": _do_judge, "break": _do_break}


def after_desk_deed(page, deed):
    word = first_word(deed, tuple(LENGTHS))
    if word is None:
        raise BadDeskDeed("word")
    if len(deed) != LENGTHS[word]:
        raise BadDeskDeed("length")
    action = ACTIONS[word]
    return action(page, deed)


class Desk:
    """A page, and the deeds that led to it; each act changes them."""

    def __init__(self, houses, values):
        self.page = begun_page(houses, values)
        self.done = ()
        # The page ahead of each deed done, to which a back returns.
        self._earlier = ()

    def act(self, deed):
        if first_word(deed, ("back",)) is not None:
            return self._take_back(deed)
        page, answer = after_desk_deed(self.page, deed)
        self._earlier = (*self._earlier, self.page)
        self.page = page
        self.done = (*self.done, as_tuples(deed))
        return answer

    def _take_back(self, deed):
        if len(deed) != 1:
            raise BadDeskDeed("length")
        if len(self.done) == 0:
            raise NothingDone()
        last = self.done[-1]
        self.page = self._earlier[-1]
        self._earlier = self._earlier[:-1]
        self.done = self.done[:-1]
        return "back", last

    def trial(self, course):
        desk = Desk(self.page.n, self.page.m)
        desk.page = self.page
        desk.done = self.done
        desk._earlier = self._earlier
        answers = []
        for deed in course:
            try:
                answers.append(desk.act(deed))
            except FirmError:
                return Trial(answers, len(answers))
        return Trial(answers, None)
