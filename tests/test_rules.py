"""firmvalues.rules: points 3.4 to 3.6, every kind of rule against a second reckoning."""

import itertools
import random
import unittest

from firmvalues.falls import Falls
from firmvalues.rules import check_rule, rule_holds
from reckon import NO_SEQUENCES, error_of, inputs_of, let_by, some_families

NO_NUMBERS = (True, False, None, "0", 1.0, (0,), [1], -1)
KINDS = ("all", "is", "at least", "firm", "firm greatest", "firm first", "alike but", "spread", "sum", "at", "and",
         "or", "not")


def holds_by(let, rule, entry):
    kind, *given = rule
    houses = {value: frozenset(h for h in range(len(entry)) if entry[h] == value) for value in range(4)}
    firm = [value for value in range(4) if houses[value] not in let]
    if kind == "is":
        return list(entry) == list(given[0])
    if kind == "at least":
        return sum(value == given[0] for value in entry) >= given[1]
    if kind == "firm":
        return given[0] in firm
    if kind == "firm greatest":
        return sorted(entry)[-1] in firm
    if kind == "firm first":
        had = [value for value in given[0] if houses[value]]
        return bool(had) and had[0] in firm
    if kind == "alike but":
        return any(len(lot) >= len(entry) - given[0] for value, lot in houses.items() if value in entry)
    if kind == "spread":
        return all(a - b <= given[0] for a in entry for b in entry)
    if kind == "sum":
        return sum(entry) in range(given[0], given[1] + 1)
    if kind == "at":
        return any(entry[given[0]] == value for value in given[1])
    if kind == "and":
        return False not in [holds_by(let, part, entry) for part in given]
    if kind == "or":
        return True in [holds_by(let, part, entry) for part in given]
    return not holds_by(let, given[0], entry) if kind == "not" else True


def plain_rules(n, m):
    """All rules of a kind that is not made of others, but few of the long ones."""
    yield from [("all",), ("firm greatest",)]
    yield from [("is", entry) for entry in inputs_of(n, m)[::7] + inputs_of(n, m)[-1:]]
    yield from [("at least", value, count) for value in range(m) for count in range(n + 1)]
    yield from [("firm", value) for value in range(m)]
    for length in range(1, m + 1):
        yield from [("firm first", row) for row in itertools.permutations(range(m), length)]
    yield from [("alike but", count) for count in range(n + 1)]
    yield from [("spread", most) for most in range(4)]
    yield from [("sum", least, most) for least in (0, 1, 3, 7, 15) for most in (0, 2, 3, 15)]
    for length in range(3):
        yield from [("at", house, row) for house in range(n) for row in itertools.product(range(m), repeat=length)]


def drawn_rule(drawn, plain, depth):
    if depth == 0 or drawn.random() < 0.2:
        return drawn.choice(plain)
    kind = drawn.choice(("and", "or", "not"))
    many = 1 if kind == "not" else drawn.randint(1, 3)
    return (kind, *[drawn_rule(drawn, plain, depth - 1) for _ in range(many)])


def as_lists(thing):
    return [as_lists(part) for part in thing] if isinstance(thing, tuple) else thing


class TestHolding(unittest.TestCase):
    def test_every_plain_rule_over_inputs(self):
        seen = {}
        for n, m in [(2, 1), (2, 2), (2, 4), (3, 2), (3, 3), (4, 2), (5, 2), (4, 4), (5, 4)]:
            inputs = inputs_of(n, m)
            if len(inputs) > 40:
                inputs = random.Random(n).sample(inputs, 30)
            for lots in some_families(n, 8, 1):
                falls, let = Falls(n, lots), let_by(n, lots)
                for rule in plain_rules(n, m):
                    for entry in inputs[:12 if m == 4 else 40]:
                        told = rule_holds(falls, m, rule, entry)
                        self.assertIs(told, bool(holds_by(let, rule, entry)), (rule, entry, lots))
                        seen.setdefault(rule[0], set()).add(told)
        self.assertEqual({kind for kind in seen if len(seen[kind]) == 2}, set(KINDS[1:-3]))
        self.assertEqual(seen["all"], {True})

    def test_nested_rules(self):
        drawn = random.Random(8)
        told = []
        for _ in range(1500):
            n, m = drawn.randint(2, 5), drawn.randint(1, 4)
            lots = drawn.choice(some_families(n, 12, 4))
            rule = drawn_rule(drawn, list(plain_rules(n, m)), drawn.randint(1, 3))
            try:
                check_rule(n, m, rule)
            except ValueError:
                continue
            for entry in drawn.choices(inputs_of(n, m), k=4):
                told.append(rule_holds(Falls(n, lots), m, as_lists(rule), list(entry)))
                self.assertIs(told[-1], bool(holds_by(let_by(n, lots), rule, entry)), (rule, entry, lots))
        self.assertEqual(set(told), {True, False})

    def test_joined_by_hand(self):
        falls = Falls(3, [(0,)])
        yes, no = ("all",), ("not", ("all",))
        for rule, told in ((("and", yes, no), False), (("or", no, yes), True), (("and", yes), True), (("or", no), False),
                           (("and", yes, yes, yes), True), (("or", no, no), False), (("not", no), True)):
            self.assertIs(rule_holds(falls, 2, rule, (0, 1, 0)), told)


class TestChecking(unittest.TestCase):
    def test_right_rules_come_back_as_tuples(self):
        for n, m in [(2, 1), (3, 2), (3, 4), (5, 2)]:
            for rule in plain_rules(n, m):
                wanted = (*rule[:2], tuple(sorted(set(rule[2])))) if rule[0] == "at" else rule
                self.assertEqual(repr(check_rule(n, m, rule)), repr(wanted))
                passed = as_lists(rule)
                self.assertEqual(repr(check_rule(n, m, passed)), repr(wanted))
                self.assertEqual(passed, as_lists(rule))
        passed = ["and", ["at", 1, [2, 0, 2]], ["firm first", [1, 0]], ["is", [0, 1]]]
        told = check_rule(2, 3, passed)
        passed[1][2].append(1)
        passed[3][1][0] = 2
        self.assertEqual(told, ("and", ("at", 1, (0, 2)), ("firm first", (1, 0)), ("is", (0, 1))))

    def test_kind(self):
        for rule in (*NO_SEQUENCES, (), [], [None], [1], [True], [["all"]], [("all",)], ("All",), ("at  least", 0, 0),
                     ["firm_greatest"], ("xor", ("all",)), [{}], [{"all"}], "not", (0, "all")):
            self.assertEqual(error_of(check_rule, 3, 2, rule), ("BadRule", (), "kind"))
            self.assertEqual(error_of(check_rule, 3, 2, ["and", ["all"], rule]), ("BadRule", (1,), "kind"))

    def test_length(self):
        lengths = {"all": 1, "is": 2, "at least": 3, "firm": 2, "firm greatest": 1, "firm first": 2, "alike but": 2,
                   "spread": 2, "sum": 3, "at": 3, "not": 2}
        for kind in KINDS:
            for many in range(1, 13):
                right = 2 <= many <= 9 if kind in ("and", "or") else many == lengths[kind]
                told = error_of(check_rule, 3, 2, [kind] + [None] * (many - 1))
                self.assertEqual(told == ("BadRule", (), "length"), not right, (kind, many, told))
        self.assertEqual(len(check_rule(3, 2, ["or"] + [["all"]] * 8)), 9)

    def test_each_argument_and_its_word(self):
        n, m = 3, 2
        wrong = {
            ("is", 1): ("input", [*NO_SEQUENCES, (0, 1), (0, 1, 2), (0, 1, True), (0, 1, None), [0, 1, 0, 1], ()]),
            ("at least", 1): ("value", [*NO_NUMBERS, 2]), ("at least", 2): ("count", [*NO_NUMBERS, 4]),
            ("firm", 1): ("value", [*NO_NUMBERS, 2]),
            ("firm first", 1): ("row", [*NO_SEQUENCES, (), (0, 0), (2,), (0, 1, 0), (True,), (None,), [[0]], (0, -1)]),
            ("alike but", 1): ("count", [*NO_NUMBERS, 4]),
            ("spread", 1): ("most", [*NO_NUMBERS, 4]),
            ("sum", 1): ("least", [*NO_NUMBERS, 16]), ("sum", 2): ("most", [*NO_NUMBERS, 16]),
            ("at", 1): ("house", [*NO_NUMBERS, 3]),
            ("at", 2): ("values", [*NO_SEQUENCES, [0] * 9, [2], [-1], [True], [None], [[0]], "0"]),
        }
        right = {"is": [(0, 1, 1)], "at least": [1, 3], "firm": [1], "firm first": [(1, 0)], "alike but": [3],
                 "spread": [3], "sum": [15, 0], "at": [2, [1, 0, 1, 1, 1, 1, 1, 1]]}
        for kind, given in right.items():
            self.assertEqual(check_rule(n, m, [kind, *given])[0], kind)
        for (kind, at), (word, things) in wrong.items():
            for thing in things:
                for later in (right[kind][at:], [None] * len(right[kind][at:])):
                    rule = [kind, *right[kind][:at - 1], thing, *later]
                    self.assertEqual(error_of(check_rule, n, m, rule), ("BadRule", (), word), rule)
                    nested = ("or", ("all",), ("not", rule), None)
                    self.assertEqual(error_of(check_rule, n, m, nested), ("BadRule", (1, 0), word))

    def test_bounds_follow_houses_and_values(self):
        for n, m in itertools.product(range(2, 6), range(1, 5)):
            for value, count in itertools.product(range(m + 1), range(n + 2)):
                word = "value" if value == m else "count" if count == n + 1 else None
                self.assertEqual(error_of(check_rule, n, m, ("at least", value, count)),
                                 word and ("BadRule", (), word))
            self.assertEqual(error_of(check_rule, n, m, ("at", n, ())), ("BadRule", (), "house"))
            self.assertEqual(error_of(check_rule, n, m, ("firm first", range(m))), ("BadRule", (), "row"))
            self.assertEqual(check_rule(n, m, ("firm first", list(range(m))))[1], tuple(range(m)))

    def test_deep(self):
        rule = ("all",)
        for depth in range(1, 9):
            rule = ("not", rule)
            told = error_of(check_rule, 2, 2, rule)
            self.assertEqual(told, ("BadRule", (0,) * 6, "deep") if depth > 5 else None)
        for wrong in (None, ("x",), ("all", 1)):
            for depth in range(6):
                wrong = ("and", wrong, ("all",))
            self.assertEqual(error_of(check_rule, 2, 2, wrong), ("BadRule", (0,) * 6, "deep"))
        endless = ["not"]
        endless.append(endless)
        self.assertEqual(error_of(check_rule, 2, 2, endless), ("BadRule", (0,) * 6, "deep"))

    def test_many(self):
        eight = ["or"] + [["all"]] * 8
        rule = ["and", eight, eight, eight, eight, ["not", ["all"]], ["all"]]
        self.assertEqual(check_rule(2, 2, rule)[0], "and")
        for wrong in (["all"], None, ["x"], ["all", 1], eight):
            self.assertEqual(error_of(check_rule, 2, 2, [*rule, wrong]), ("BadRule", (6,), "many"))
        self.assertEqual(error_of(check_rule, 2, 2, ["and", eight, eight, eight, eight, eight]),
                         ("BadRule", (4, 2), "many"))
        self.assertEqual(error_of(check_rule, 2, 2, [*rule[:6], ["firm", 7], ["all"]]), ("BadRule", (5,), "value"))

    def test_a_rule_ahead_of_its_subrules_and_these_from_left_to_right(self):
        self.assertEqual(error_of(check_rule, 2, 2, ("not", None, None)), ("BadRule", (), "length"))
        self.assertEqual(error_of(check_rule, 2, 2, ("and", ("or", None), ("firm",))), ("BadRule", (0, 0), "kind"))
        self.assertEqual(error_of(check_rule, 2, 2, ("and", ("or", ("all",)), ("firm",))), ("BadRule", (1,), "length"))

    def test_rule_ahead_of_input(self):
        falls = Falls(2, [(0,)])
        for entry in (None, (0, 5), (0,), (0, 0)):
            self.assertEqual(error_of(rule_holds, falls, 2, ("firm", 2), entry), ("BadRule", (), "value"))
            self.assertEqual(error_of(rule_holds, falls, 2, "all", entry), ("BadRule", (), "kind"))
        self.assertEqual(error_of(rule_holds, falls, 2, ["all"], (0, 0, 0)), ("BadInput", "length", 0))
        self.assertEqual(error_of(rule_holds, falls, 2, ["all"], (0, True)), ("BadInput", "value", 1))
        self.assertEqual(error_of(rule_holds, falls, 2, ["all"], "00"), ("BadInput", "length", 0))


if __name__ == "__main__":
    unittest.main()
