"""Agendas: decisions one behind the other, whose books depend on what was decided before."""

from firmvalues.books import MOST_INPUTS, book_of
from firmvalues.errors import BadAgenda, BadLog, BadRule, BadSlotRule, NoSlot, NotPossible
from firmvalues.firmness import NET_MANNERS
from firmvalues.inputs import all_inputs, as_tuples, is_sequence, is_whole
from firmvalues.outcomes import Clash, decide
from firmvalues.rules import check_rule

MOST_SLOTS = 6
MOST_CHOICES = 3
LENGTHS = {"rule": 2, "keeps": 2, "choose": 3}


class Agenda:
    """Slots over one family, number of values and manner; each slot has a rule of its own."""

    def __init__(self, falls, values, manner, rules):
        if not is_whole(values, 1, 4):
            raise BadAgenda("values")
        if has_too_many(falls.n, values):
            raise BadAgenda("many")
        if manner not in NET_MANNERS:
            raise BadAgenda("manner")
        checked = check_slot_rules(falls.n, values, rules)
        self.falls = falls
        self.n = falls.n
        self.m = values
        self.manner = manner
        self.rules = checked

    def __eq__(self, other):
        return (isinstance(other, Agenda) and self.falls == other.falls and self.n == other.n and self.m == other.m
                and self.manner == other.manner and self.rules == other.rules)

    def __len__(self):
        return len(self.rules)


class Stuck:
    """A possible log behind which the next slot has a clash."""

    def __init__(self, log, clash):
        self.log = as_tuples(log)
        self.clash = clash

    def __eq__(self, other):
        return isinstance(other, Stuck) and self.log == other.log and self.clash == other.clash


def has_too_many(houses, values):
    """True if there are more inputs than a book may hold."""
    return len(all_inputs(houses, values)) > MOST_INPUTS


def check_slot_rules(houses, values, rules):
    if not is_sequence(rules) or not 1 <= len(rules) <= MOST_SLOTS:
        raise BadAgenda("rules")
    return tuple([check_slot_rule(houses, values, slot, rules[slot]) for slot in range(len(rules))])


def check_slot_rule(houses, values, slot, rule):
    return _checked_rule(houses, values, slot, rule, ())


def _checked_rule(houses, values, slot, rule, path):
    if not is_sequence(rule) or len(rule) == 0:
        raise BadSlotRule(slot, path, "form")
    kind = rule[0]
    if not isinstance(kind, str) or kind not in LENGTHS:
        raise BadSlotRule(slot, path, "kind")
    if len(rule) != LENGTHS[kind]:
        raise BadSlotRule(slot, path, "length")
    if kind == "rule":
        try:
            return kind, check_rule(houses, values, rule[1])
        except BadRule:
            raise BadSlotRule(slot, path, "rule") from None
    if not is_whole(rule[1], 0, slot - 1):
        raise BadSlotRule(slot, path, "slot")
    if kind == "keeps":
        return kind, rule[1]
    if len(path) == MOST_CHOICES:
        raise BadSlotRule(slot, path, "deep")
    if not is_sequence(rule[2]) or len(rule[2]) != values:
        raise BadSlotRule(slot, path, "rules")
    rules = [_checked_rule(houses, values, slot, rule[2][value], path + (value,)) for value in range(values)]
    return kind, rule[1], tuple(rules)


def plain_rule(rule, log):
    if rule[0] == "choose":
        return plain_rule(rule[2][log[rule[1]]], log)
    if rule[0] == "keeps":
        return "firm", log[rule[1]]
    return as_tuples(rule[1])


def check_log(agenda, log):
    if not is_sequence(log) or len(log) > len(agenda):
        raise BadLog(-1)
    for index in range(len(log)):
        if not is_whole(log[index], 0, agenda.m - 1):
            raise BadLog(index)
    return tuple(log)


def book_behind(agenda, log):
    checked = check_log(agenda, log)
    slot = len(checked)
    if slot == len(agenda):
        raise NoSlot(slot)
    return book_of(agenda.falls, agenda.m, plain_rule(agenda.rules[slot], checked))


def outcomes_behind(agenda, log):
    book = book_behind(agenda, log)
    return decide(book, agenda.falls, agenda.manner)


def next_values(agenda, log):
    checked = check_log(agenda, log)
    return _values_of(_decided_behind(agenda, checked, {}))


def _decided_behind(agenda, log, decided):
    """What decides the slot behind a log, None if no slot is left.

    `decided` keeps it by plain rules, as many logs lead to the same one.
    """
    if len(log) == len(agenda):
        return None
    rule = plain_rule(agenda.rules[len(log)], log)
    if rule not in decided:
        decided[rule] = outcomes_behind(agenda, log)
    return decided[rule]


def _values_of(decided):
    if decided is None or isinstance(decided, Clash):
        return ()
    return tuple(sorted(set(decided.told)))


def is_possible(agenda, log):
    checked = check_log(agenda, log)
    return all([checked[at] in next_values(agenda, checked[:at]) for at in range(len(checked))])


def each_possible_log(agenda):
    decided = {}
    left = [()]
    while len(left) > 0:
        log = left.pop()
        yield log
        left.extend(_logs_behind(agenda, log, decided))


def _logs_behind(agenda, log, decided):
    """The possible logs with one item more, the last of them first: they are taken from the end."""
    values = _values_of(_decided_behind(agenda, log, decided))
    return [log + (value,) for value in reversed(values)]


def each_stuck_log(agenda):
    decided = {}
    for log in each_possible_log(agenda):
        if isinstance(_decided_behind(agenda, log, decided), Clash):
            yield log


def is_sound(agenda):
    return first_stuck(agenda) is None


def first_stuck(agenda):
    for log in each_stuck_log(agenda):
        return Stuck(log, outcomes_behind(agenda, log))
    return None


def entries_for(agenda, log):
    checked = check_log(agenda, log)
    entries = []
    for index in range(len(checked)):
        decided = outcomes_behind(agenda, checked[:index])
        if isinstance(decided, Clash) or checked[index] not in decided.told:
            raise NotPossible(index)
        entries.append(decided.inputs[decided.told.index(checked[index])])
    return tuple(entries)
