"""Agendas of all kinds, and plain second reckonings of slot rules and logs."""

import itertools
import random

from firmvalues.books import book_of
from firmvalues.falls import Falls
from firmvalues.outcomes import Outcomes, decide
from firmvalues.slots import Agenda
from courses import families_for
from reckon import fits_by, groups_by, inputs_of, let_by, values_by

PLAIN = (("all",), ("firm greatest",), ("alike but", 0), ("alike but", 1), ("spread", 0), ("spread", 1), ("sum", 0, 2),
         ("firm", 0), ("at least", 0, 2), ("or", ("firm greatest",), ("alike but", 0)), ("not", ("alike but", 0)),
         ("at", 0, (0,)), ("at", 0, ()), ("and", ("firm greatest",), ("at", 1, (0, 0))))


def drawn_plain(drawn, n, m):
    if drawn.random() < 0.2:
        return "is", tuple(drawn.randrange(m) for _ in range(n))
    if drawn.random() < 0.2:
        return "firm first", tuple(drawn.sample(range(m), drawn.randint(1, m)))
    return drawn.choice(PLAIN)


def drawn_rule(drawn, n, m, slot, depth=0, tame=False):
    """A slot rule; a tame one holds only what keeps an agenda sound."""
    kind = drawn.choice(["rule", "rule", "keeps", "choose", "choose"]) if slot else "rule"
    if kind == "choose" and (depth == 3 or (depth and drawn.random() < 0.5)):
        kind = "keeps"
    if kind == "rule":
        return kind, ("firm greatest",) if tame or drawn.random() < 0.3 else drawn_plain(drawn, n, m)
    if kind == "keeps":
        return kind, drawn.randrange(slot)
    return kind, drawn.randrange(slot), tuple(drawn_rule(drawn, n, m, slot, depth + 1, tame) for _ in range(m))


def some_agendas(many, seed, houses=(2, 3, 4), slots=(1, 2, 3), manners=("sure", "letters"), tame=False):
    drawn = random.Random(seed)
    for n in houses:
        families = families_for(n, seed)
        for manner in manners:
            for _ in range(many):
                m = drawn.choice([1, 2, 2, 3] if n < 4 else [2])
                rules = [drawn_rule(drawn, n, m, slot, 0, tame) for slot in range(drawn.choice(slots))]
                yield drawn, Agenda(Falls(n, drawn.choice(families)), m, manner, rules)


def rule_behind(agenda, log):
    """The rule of part 3 of the slot behind a log, step by step."""
    rule = agenda.rules[len(log)]
    while rule[0] == "choose":
        rule = rule[2][log[rule[1]]]
    return ("firm", log[rule[1]]) if rule[0] == "keeps" else rule[1]


def decided_by_inputs(agenda, log, found):
    """(inputs, values) of the slot behind a log, by all inputs and their groups; values are None if it clashes."""
    rule = rule_behind(agenda, log)
    if rule not in found:
        n, m, manner = agenda.n, agenda.m, agenda.manner
        book = book_of(agenda.falls, m, rule)
        let = let_by(n, agenda.falls.lots)
        told = {}
        for group in groups_by(let, n, manner, [entry for entry in inputs_of(n, m) if entry in book]):
            values = values_by(let, manner, m, group)
            told.update({entry: values[0] if values else None for entry in group})
            assert all(fits_by(let, manner, entry, value) for value in values[:1] for entry in group)
        values = None if None in told.values() else told
        found[rule] = (book.inputs, values)
    return found[rule]


def next_by(agenda, log, found):
    if len(log) == len(agenda.rules):
        return ()
    told = decided_by_inputs(agenda, log, found)[1]
    return () if told is None else tuple(sorted(set(told.values())))


def all_logs_of(agenda):
    return [log for length in range(len(agenda.rules) + 1) for log in itertools.product(range(agenda.m), repeat=length)]


def possible_by(agenda, log, found):
    return all(log[at] in next_by(agenda, log[:at], found) for at in range(len(log)))


def is_stuck_by(agenda, log, found):
    return len(log) < len(agenda.rules) and decided_by_inputs(agenda, log, found)[1] is None


def is_outcomes(thing):
    return isinstance(thing, Outcomes)


def outcomes_of(agenda, log):
    return decide(book_of(agenda.falls, agenda.m, rule_behind(agenda, log)), agenda.falls, agenda.manner)
