"""A plain second walk of desks by the words of part 16, and deeds for them."""

from firmvalues.books import book_of
from firmvalues.breaking import break_program
from firmvalues.falls import Falls
from firmvalues.inputs import as_tuples
from firmvalues.outcomes import Clash, decide
from firmvalues.registers import Commands
from firmvalues.service import after_service_deed, all_logs, begun_service, calm_service, read_at
from firmvalues.servicetext import read_service, service_text
from firmvalues.slots import Agenda, check_slot_rule
from firmvalues.standings import decided_by, first_standing, standing_after
from firmvalues.tables import HouseTable
from firmvalues.verdicts import judge_program
from agendas import drawn_rule
from programs import KINDS, drawn_program
from reckon import error_of, some_families
from services import ShadowService, all_service_deeds, service_deed
from test_registers import drawn_command

LENGTHS = {"falls": 2, "manner": 2, "slots": 2, "commands": 3, "begin": 1, "service": 2, "calm": 1, "read": 2, "cut": 1,
           "resume": 1, "program": 2, "entry": 2, "step": 2, "judge": 1, "break": 1}
PARTS = ("falls", "manner", "rules", "commands", "service", "program", "standing", "text")


class Refused(Exception):
    """The error of a deed, as `error_of` tells it."""


class ShadowDesk:
    """A page as a dict; `do` returns (error, None) or (None, answer)."""

    def __init__(self, n, m):
        self.n, self.m = n, m
        self.page = dict.fromkeys(PARTS)
        self.page.update(falls=Falls(n, []), manner="letters", rules=(("rule", ("all",)),))
        self.courses = None

    def do(self, deed):
        kept = dict(self.page)
        try:
            if not isinstance(deed, (list, tuple)) or not deed or not isinstance(deed[0], str) or deed[0] not in LENGTHS:
                raise Refused("BadDeskDeed", "word")
            if len(deed) != LENGTHS[deed[0]]:
                raise Refused("BadDeskDeed", "length")
            return None, getattr(self, "do_" + deed[0])(*deed[1:])
        except Refused as error:
            self.page = kept
            return error.args, None

    def call(self, function, *args):
        error = error_of(function, *args)
        if error is not None:
            raise Refused(*error)
        return function(*args)

    def need(self, part, error):
        if self.page[part] is None:
            raise Refused(error)
        return self.page[part]

    def agenda(self):
        return self.call(Agenda, self.page["falls"], self.m, self.page["manner"], self.page["rules"])

    def do_falls(self, lots):
        self.page.update(falls=self.call(Falls, self.n, lots), service=None, text=None)
        return "falls", self.page["falls"].lots

    def do_manner(self, manner):
        if manner not in ("sure", "cells", "letters"):
            raise Refused("BadManner", manner)
        self.page.update(manner=manner, service=None, text=None)
        return "manner", manner

    def do_slots(self, rules):
        if not isinstance(rules, (list, tuple)) or not 1 <= len(rules) <= 6:
            raise Refused("BadAgenda", "rules")
        checked = tuple(self.call(check_slot_rule, self.n, self.m, slot, rule) for slot, rule in enumerate(rules))
        self.page.update(rules=checked, service=None, text=None)
        return "slots", len(rules)

    def do_commands(self, start, rows):
        self.page["commands"] = self.call(Commands, start, rows)
        return "commands", len(start)

    def do_begin(self):
        if self.page["manner"] == "cells":
            raise Refused("BadAgenda", "manner")
        self.page.update(service=begun_service(self.agenda()), text=None)
        return "begin", len(self.page["service"].nets)

    def do_service(self, deed):
        self.page["service"] = self.call(after_service_deed, self.need("service", "NoService"), deed)
        return "logs", all_logs(self.page["service"])

    def do_calm(self):
        self.page["service"] = calm_service(self.need("service", "NoService"))
        return "logs", all_logs(self.page["service"])

    def do_read(self, house):
        service, commands = self.need("service", "NoService"), self.need("commands", "NoCommands")
        if len(commands.rows) != self.m:
            raise Refused("BadCommands", "rows", 0)
        length, registers = self.call(read_at, service, commands, house)
        return "read", length, registers

    def do_cut(self):
        service = self.need("service", "NoService")
        self.page.update(text=service_text(service), service=None)
        return "cut", len(service.nets)

    def do_resume(self):
        text = self.need("text", "NothingCut")
        service = self.call(read_service, self.agenda(), text)
        self.page.update(text=None, service=service)
        return "logs", all_logs(service)

    def do_program(self, tables):
        if not isinstance(tables, (list, tuple)) or len(tables) != self.n:
            raise Refused("BadDeskDeed", "tables")
        if not all(isinstance(table, (list, tuple)) and len(table) == 3 for table in tables):
            raise Refused("BadDeskDeed", "tables")
        program = tuple(self.call(HouseTable, self.n, *table) for table in tables)
        if any(table.m != self.m for table in program):
            raise Refused("UnlikeValues")
        self.page.update(program=program, standing=None)
        return "program", tuple(table.states for table in program)

    def do_entry(self, entry):
        self.page["standing"] = self.call(first_standing, self.need("program", "NoProgram"), entry)
        return "told", (None,) * self.n

    def do_step(self, house):
        standing = self.need("standing", "NotStarted")
        self.page["standing"] = self.call(standing_after, self.page["program"], standing, house)
        return "told", decided_by(self.page["standing"])

    def first_book(self):
        if self.page["manner"] == "letters":
            raise Refused("BadManner", "letters")
        return book_of(self.page["falls"], self.m, self.page["rules"][0][1])

    def do_judge(self):
        program = self.need("program", "NoProgram")
        return "judge", self.call(judge_program, program, self.first_book(), self.page["falls"], self.page["manner"])

    def do_break(self):
        program, book = self.need("program", "NoProgram"), self.first_book()
        decided = decide(book, self.page["falls"], self.page["manner"])
        if isinstance(decided, Clash):
            return "broken", self.call(break_program, program, book, self.page["falls"], decided)
        return "outcomes", decided.told


def page_parts(page):
    return {part: getattr(page, part) for part in PARTS}


def tables_of(program):
    return tuple((table.states, table.start, table.moves) for table in program)


def right_deed(drawn, shadow, wanted):
    """A deed of the right form for the page; `wanted` holds the shadow of its service while it has one."""
    n, m, page = shadow.n, shadow.m, shadow.page
    if page["text"] is not None:
        likely = ["resume"] * 6
    elif page["service"] is not None:
        likely = ["service"] * 16 + ["calm"] + ["read"] * 3 + ["cut"] * 2
    else:
        likely = ["manner"] * 3 if page["manner"] == "cells" else ["falls", "slots"] + ["begin"] * 3
    if page["program"] is not None:
        likely += ["step"] * 5 + ["entry"] if page["standing"] is not None else ["entry"] * 3
    word = drawn.choice(likely if drawn.random() < 0.75 else list(LENGTHS))
    if word == "service" and wanted is not None:
        return word, drawn.choice([service_deed(drawn, wanted)] * 6 + [drawn.choice(all_service_deeds(wanted.agenda, 2))])
    return (word, *arguments_of(drawn, word, n, m))


def arguments_of(drawn, word, n, m):
    if word == "falls":
        return (drawn.choice([[[house] for house in range(n)], drawn.choice(some_families(n, 12, 5))]),)
    if word == "manner":
        return (drawn.choice(["sure", "sure", "letters", "letters", "cells"]),)
    if word == "slots":
        return (tuple(drawn_rule(drawn, n, m, slot, 0, drawn.random() < 0.6) for slot in range(drawn.randint(1, 3))),)
    if word == "commands":
        start = [drawn.randrange(9) for _ in range(drawn.randint(1, 3))]
        rows = [drawn_command(drawn, len(start)) for _ in range(drawn.choice([m, m, m, 1 + m % 3]))]
        return start, [[part if isinstance(part, str) else min(abs(part), 99) for part in row] for row in rows]
    if word == "program":
        return (tables_of(drawn_program(drawn, n, m, drawn.choice(KINDS))),)
    if word == "entry":
        return ([drawn.randrange(m) for _ in range(n)],)
    if word == "service":
        return (drawn.choice([("stop", 0), ("wake", 0), ("slot", 0, ("write", 0)), ("slot", 0, ("hand", 0))]),)
    return (drawn.randrange(n),) if word in ("step", "read") else ()


def follow_service(drawn, shadow, wanted, deed, before):
    """The shadow of the page's service behind a deed that was taken."""
    if shadow.page["service"] is None:
        return wanted if shadow.page["text"] is not None else None
    if deed[0] == "begin":
        return ShadowService(shadow.page["service"].agenda, drawn)
    if deed[0] == "service":
        wanted.do(as_tuples(deed[1]))
    if deed[0] == "calm":
        wanted.calm()
    return wanted
