"""Rules: which inputs a book is to hold."""

from firmvalues.errors import BadRule
from firmvalues.firmness import is_firm, places_of
from firmvalues.inputs import check_entry, is_entry, is_sequence, is_whole, is_whole_row

MOST_RULES = 40
DEEPEST_RULE = 5
MOST_SUBRULES = 8
MOST_SPREAD = 3
MOST_SUM = 15
MOST_VALUES = 8
JOINING = ("and", "or", "not")
ARGUMENTS = {
    "all": (),
    "is": ("input",),
    "at least": ("value", "count"),
    "firm": ("value",),
    "firm greatest": (),
    "firm first": ("row",),
    "alike but": ("count",),
    "spread": ("most",),
    "sum": ("least", "most"),
    "at": ("house", "values"),
}


def check_rule(houses, values, rule):
    return _checked_rule(houses, values, rule, (), [])


def _checked_rule(houses, values, rule, path, checked):
    """`checked` holds the paths of all rules that were begun so far."""
    checked.append(path)
    if len(checked) > MOST_RULES:
        raise BadRule(path, "many")
    if len(path) > DEEPEST_RULE:
        raise BadRule(path, "deep")
    if not _has_kind(rule):
        raise BadRule(path, "kind")
    if not _has_length(rule):
        raise BadRule(path, "length")
    if rule[0] in JOINING:
        subrules = [_checked_rule(houses, values, rule[at], path + (at - 1,), checked) for at in range(1, len(rule))]
        return (rule[0], *subrules)
    return _checked_arguments(houses, values, rule, path)


def _has_kind(rule):
    if not is_sequence(rule) or len(rule) == 0 or not isinstance(rule[0], str):
        return False
    return rule[0] in JOINING or rule[0] in ARGUMENTS


def _has_length(rule):
    if rule[0] == "not":
        return len(rule) == 2
    if rule[0] in JOINING:
        return 2 <= len(rule) <= MOST_SUBRULES + 1
    return len(rule) == len(ARGUMENTS[rule[0]]) + 1


def _checked_arguments(houses, values, rule, path):
    kind = rule[0]
    words = ARGUMENTS[kind]
    for at in range(len(words)):
        if not _is_argument(houses, values, kind, words[at], rule[at + 1]):
            raise BadRule(path, words[at])
    if kind == "at":
        return (kind, rule[1], tuple(sorted(set(rule[2]))))
    if kind == "is" or kind == "firm first":
        return (kind, tuple(rule[1]))
    return tuple(rule)


def _is_argument(houses, values, kind, word, thing):
    if word == "input":
        return is_entry(houses, values, thing)
    if word == "row":
        return _is_value_row(values, thing, 1, values) and len(set(thing)) == len(thing)
    if word == "values":
        return _is_value_row(values, thing, 0, MOST_VALUES)
    if word == "value":
        return is_whole(thing, 0, values - 1)
    if word == "count":
        return is_whole(thing, 0, houses)
    if word == "house":
        return is_whole(thing, 0, houses - 1)
    return is_whole(thing, 0, MOST_SPREAD if kind == "spread" else MOST_SUM)


def _is_value_row(values, thing, least, most):
    return is_whole_row(thing) and least <= len(thing) <= most and all([0 <= value < values for value in thing])


def rule_holds(falls, values, rule, entry):
    checked = check_rule(falls.n, values, rule)
    return holds_for(falls, checked, check_entry(falls.n, values, entry))


def holds_for(falls, rule, entry):
    """What `rule_holds` tells, for a rule and an input that were checked before."""
    kind = rule[0]
    if kind == "and":
        return all([holds_for(falls, subrule, entry) for subrule in rule[1:]])
    if kind == "or":
        return any([holds_for(falls, subrule, entry) for subrule in rule[1:]])
    if kind == "not":
        return not holds_for(falls, rule[1], entry)
    if kind in ("firm", "firm greatest", "firm first"):
        return _firm_holds(falls, rule, entry)
    return _plain_holds(rule, entry)


def _firm_holds(falls, rule, entry):
    if rule[0] == "firm":
        return is_firm(falls, entry, rule[1])
    if rule[0] == "firm greatest":
        return is_firm(falls, entry, max(entry))
    for value in rule[1]:
        if value in entry:
            return is_firm(falls, entry, value)
    return False


def _plain_holds(rule, entry):
    kind = rule[0]
    if kind == "is":
        return entry == rule[1]
    if kind == "at least":
        return len(places_of(entry, rule[1])) >= rule[2]
    if kind == "alike but":
        return max([len(places_of(entry, value)) for value in entry]) >= len(entry) - rule[1]
    if kind == "spread":
        return max(entry) - min(entry) <= rule[1]
    if kind == "sum":
        return rule[1] <= sum(entry) <= rule[2]
    if kind == "at":
        return entry[rule[1]] in rule[2]
    return True
