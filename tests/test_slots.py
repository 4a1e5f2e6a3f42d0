"""firmvalues.slots: points 15.1 to 15.3, rules with places spoilt, and logs against all logs."""

import itertools
import random
import time
import unittest

from firmvalues.books import Book, book_of
from firmvalues.falls import Falls
from firmvalues.outcomes import Clash, decide
from firmvalues.rules import check_rule
from firmvalues.slots import (Agenda, Stuck, book_behind, check_log, check_slot_rule, each_possible_log, each_stuck_log,
                              entries_for, first_stuck, is_possible, is_sound, next_values, outcomes_behind, plain_rule)
from agendas import (all_logs_of, decided_by_inputs, drawn_rule, is_stuck_by, next_by, outcomes_of, possible_by,
                     rule_behind, some_agendas)
from reckon import NO_SEQUENCES, error_of

NO_NUMBERS = (True, False, None, -1, "0", 0.5, (0,), [0], {}, {0})
BAD_RULES = (None, (), "all", ("alll",), ("firm",), ("firm", 9), ("firm", True), ("not", ("is", (0,))), (("all",),), 5, {})


def as_lists(thing):
    return [as_lists(part) for part in thing] if isinstance(thing, tuple) else thing


def deep_rule(k, m, depth, last):
    """A choose in a choose, to this depth, with one rule spread over all sub-rules."""
    return last if depth == 0 else ("choose", k, (deep_rule(k, m, depth - 1, last),) * m)


def fault_by(n, m, slot, rule, path=()):
    """The path and word of the first fault, by the words of the point."""
    if not isinstance(rule, (list, tuple)) or len(rule) == 0:
        return path, "form"
    if not isinstance(rule[0], str) or rule[0] not in ("rule", "keeps", "choose"):
        return path, "kind"
    if len(rule) != (3 if rule[0] == "choose" else 2):
        return path, "length"
    if rule[0] == "rule":
        return (path, "rule") if error_of(check_rule, n, m, rule[1]) else None
    if type(rule[1]) is not int or not 0 <= rule[1] < slot:
        return path, "slot"
    if rule[0] == "keeps":
        return None
    if len(path) >= 3:
        return path, "deep"
    if not isinstance(rule[2], (list, tuple)) or len(rule[2]) != m:
        return path, "rules"
    faults = [fault_by(n, m, slot, rule[2][v], path + (v,)) for v in range(m)]
    return next((fault for fault in faults if fault), None)


def spoilt_at_one_place(drawn, rule):
    """The rule with a thing in some place within it that does not belong there, or one item more or less."""
    if not isinstance(rule, tuple) or not rule or drawn.random() < 0.05:
        return drawn.choice([None, (), 0, 5, -1, True, "rule", "keeps", ("keeps",), ("rule", ("all",)), ("choose", 0), {},
                             ("keeps", True), ("choose", 0, ()), ("rule", ("firm", 7)), [], ("other", 0), ((), ()), [["rule"]]])
    at = drawn.randrange(len(rule))
    if drawn.random() < 0.15:
        return rule[:at] + rule[at + 1:] if drawn.random() < 0.5 else rule[:at] + (0,) + rule[at:]
    return rule[:at] + (spoilt_at_one_place(drawn, rule[at]),) + rule[at + 1:]


class TestSlotRules(unittest.TestCase):
    def test_right_rules_come_back_as_nested_tuples(self):
        drawn = random.Random(401)
        for _ in range(300):
            n, m, slot = drawn.choice([2, 3]), drawn.choice([1, 2, 3]), drawn.randrange(6)
            rule = drawn_rule(drawn, n, m, slot)
            if fault_by(n, m, slot, rule) is None:
                told = check_slot_rule(n, m, slot, rule)
                self.assertEqual(check_slot_rule(n, m, slot, as_lists(rule)), told)
                self.assertEqual(check_slot_rule(n, m, slot, told), told)
        self.assertEqual(check_slot_rule(2, 3, 1, ["choose", 0, [["rule", ["at", 1, [2, 0, 2]]], ["keeps", 0], ["rule", ["all"]]]]),
                         ("choose", 0, (("rule", ("at", 1, (0, 2))), ("keeps", 0), ("rule", ("all",)))))

    def test_what_is_changed_later_has_no_effect(self):
        rule = ["choose", 0, [["keeps", 0], ["rule", ["at", 0, [1]]]]]
        told = check_slot_rule(2, 2, 1, rule)
        rule[2][1][1][2].append(0)
        rule[2][0][1] = 7
        self.assertEqual(told, ("choose", 0, (("keeps", 0), ("rule", ("at", 0, (1,))))))

    def test_the_greatest_depth_and_beyond_it(self):
        for m, slot in ((1, 1), (2, 3), (3, 2)):
            k = slot - 1
            for last in (("keeps", k), ("rule", ("all",))):
                for depth in range(4):
                    rule = deep_rule(k, m, depth, last)
                    self.assertEqual(check_slot_rule(2, m, slot, as_lists(rule)), rule)
                told = error_of(check_slot_rule, 2, m, slot, deep_rule(k, m, 4, last))
                self.assertEqual(told, ("BadSlotRule", slot, (0, 0, 0), "deep"))
            for end, what in ((("choose", k, ()), "deep"), (("choose", True, None), "slot"), (("choose", k), "length"),
                              (("choose", slot, ()), "slot"), ((), "form"), (("Keeps", k), "kind")):
                self.assertEqual(error_of(check_slot_rule, 2, m, slot, deep_rule(k, m, 3, end)),
                                 ("BadSlotRule", slot, (0, 0, 0), what))

    def test_every_word_at_the_top(self):
        for slot in range(6):
            for thing, what in [(thing, "form") for thing in NO_SEQUENCES + ((), [])] + [
                    ((word, *rest), "kind") for word in ("", "Rule", "rules", None, 0, True, ("rule",), ["rule"], {}, b"rule")
                    for rest in ((), (("all",),), (0, 0))] + [
                    ((word,) + (0,) * many, "length") for word in ("rule", "keeps", "choose") for many in range(4)
                    if many != (2 if word == "choose" else 1)] + [
                    (("rule", rule), "rule") for rule in BAD_RULES] + [
                    (("keeps", k), "slot") for k in NO_NUMBERS + (slot, slot + 1, 10 ** 30)] + [
                    (("choose", k, rules), "slot") for k in NO_NUMBERS + (slot, 99)
                    for rules in (None, (("keeps", 0),) * 2)] + [
                    (("choose", 0, rules), "rules" if slot else "slot")
                    for rules in NO_SEQUENCES + ((), (("keeps", 0),), (("keeps", 0),) * 3)]:
                self.assertEqual(error_of(check_slot_rule, 3, 2, slot, thing), ("BadSlotRule", slot, (), what), thing)

    def test_spoilt_rules_tell_their_first_fault(self):
        drawn, seen = random.Random(402), {}
        for _ in range(9000):
            n, m, slot = 2, drawn.choice([1, 2, 3]), drawn.choice([0, 1, 2, 5])
            rule = drawn_rule(drawn, n, m, slot) if drawn.random() < 0.5 or not slot else deep_rule(0, m, 2, ("keeps", 0))
            for _ in range(drawn.choice([1, 1, 2])):
                rule = spoilt_at_one_place(drawn, rule)
            fault = fault_by(n, m, slot, rule)
            told = error_of(check_slot_rule, n, m, slot, rule)
            self.assertEqual(told, fault and ("BadSlotRule", slot, *fault), rule)
            if fault:
                seen[fault[1], len(fault[0])] = seen.get((fault[1], len(fault[0])), 0) + 1
        for what in ("form", "kind", "length", "rule", "slot"):
            for depth in range(3):
                self.assertGreater(seen.get((what, depth), 0), 3, (what, depth))
        self.assertGreater(min(seen["rules", 0], seen["rules", 1]), 3)

    def test_the_plain_rule_behind_every_log(self):
        drawn = random.Random(403)
        for _ in range(150):
            n, m, slot = 2, drawn.choice([1, 2, 3]), drawn.randrange(1, 4)
            rule = check_slot_rule(n, m, slot, drawn_rule(drawn, n, m, slot))
            for log in itertools.product(range(m), repeat=slot):
                wanted = rule
                while wanted[0] == "choose":
                    wanted = wanted[2][log[wanted[1]]]
                wanted = ("firm", log[wanted[1]]) if wanted[0] == "keeps" else wanted[1]
                self.assertEqual(plain_rule(rule, log), wanted)
                self.assertEqual(plain_rule(as_lists(rule), list(log)), wanted)


class TestAgendas(unittest.TestCase):
    def test_attributes_length_and_equality(self):
        falls = Falls.at_most(3, 1)
        rules = [["rule", ["all"]], ["keeps", 0]]
        agenda = Agenda(falls, 2, "letters", rules)
        self.assertEqual((agenda.falls, agenda.n, agenda.m, agenda.manner, agenda.rules, len(agenda)),
                         (falls, 3, 2, "letters", (("rule", ("all",)), ("keeps", 0)), 2))
        rules.pop()
        self.assertEqual(agenda, Agenda(Falls.at_most(3, 1), 2, "letters", (("rule", ("all",)), ("keeps", 0))))
        for other in (Agenda(Falls.at_most(3, 2), 2, "letters", agenda.rules), Agenda(falls, 3, "letters", agenda.rules),
                      Agenda(falls, 2, "sure", agenda.rules), Agenda(falls, 2, "letters", agenda.rules[:1]), None, agenda.rules):
            self.assertNotEqual(agenda, other)

    def test_errors_in_their_order(self):
        bad_rules = [[("rule", ("all",)), ("keeps", 1)], [()], None]
        for values in (True, None, 0, 5, -1, "2", (2,), 2.0):
            for manner in ("sure", "cells"):
                for rules in bad_rules:
                    self.assertEqual(error_of(Agenda, Falls.at_most(5, 4), values, manner, rules), ("BadAgenda", "values"))
        for n, values in ((5, 4),):
            for manner in ("letters", None):
                self.assertEqual(error_of(Agenda, Falls(n, []), values, manner, None), ("BadAgenda", "many"))
        for n, values in ((5, 3), (4, 4), (2, 4), (5, 1)):
            self.assertIsNone(error_of(Agenda, Falls(n, []), values, "sure", [("rule", ("firm greatest",))]))
        for manner in ("cells", "Sure", "", None, 0, True, [], {}, ("sure",)):
            for rules in bad_rules:
                self.assertEqual(error_of(Agenda, Falls(2, []), 2, manner, rules), ("BadAgenda", "manner"))
        for rules in NO_SEQUENCES + ((), [], [("rule", ("all",))] * 7):
            self.assertEqual(error_of(Agenda, Falls(2, []), 2, "sure", rules), ("BadAgenda", "rules"))
        self.assertEqual(len(Agenda(Falls(2, []), 2, "sure", [("rule", ("all",))] * 6)), 6)

    def test_slot_rules_by_their_slots(self):
        good = [("rule", ("all",)), ("keeps", 0), ("choose", 1, (("keeps", 0), ("keeps", 1)))]
        falls = Falls(2, [])
        for slot in range(3):
            for bad, path, what in ((None, (), "form"), (("keeps", slot), (), "slot"), (("rule", ("at",)), (), "rule"),
                                    (("choose", 0, (("keeps", 0), ("keeps", 9))), (1,) if slot else (), "slot")):
                rules = good[:slot] + [bad] + good[slot + 1:]
                self.assertEqual(error_of(Agenda, falls, 2, "sure", rules), ("BadSlotRule", slot, path, what))
                self.assertEqual(error_of(Agenda, falls, 2, "sure", rules + [()]), ("BadSlotRule", slot, path, what))

    def test_logs(self):
        for drawn, agenda in some_agendas(6, 404):
            for log in all_logs_of(agenda):
                for thing in (log, list(log)):
                    self.assertEqual(check_log(agenda, thing), log)
            whole = (0,) * len(agenda)
            checks = [check_log, book_behind, outcomes_behind, next_values, is_possible, entries_for]
            for call in checks:
                for thing in NO_SEQUENCES + (whole + (0,), whole + (9, 9)):
                    self.assertEqual(error_of(call, agenda, thing), ("BadLog", -1))
                for at in range(len(agenda)):
                    for item in NO_NUMBERS + (agenda.m, 99):
                        log = list(whole)
                        log[at] = item
                        self.assertEqual(error_of(call, agenda, log), ("BadLog", at))
                        log[-1] = None
                        self.assertEqual(error_of(call, agenda, log), ("BadLog", at))
            for call in (book_behind, outcomes_behind):
                self.assertEqual(error_of(call, agenda, whole), ("NoSlot", len(agenda)))


class TestLogs(unittest.TestCase):
    def test_books_outcomes_and_values_behind_every_log(self):
        seen = {"clash": 0, "empty": 0, "several": 0}
        for drawn, agenda in some_agendas(24, 405):
            found = {}
            for log in all_logs_of(agenda):
                self.assertEqual(next_values(agenda, list(log)), next_by(agenda, log, found))
                self.assertEqual(is_possible(agenda, list(log)), possible_by(agenda, log, found))
                if len(log) < len(agenda):
                    inputs, told = decided_by_inputs(agenda, log, found)
                    self.assertEqual(book_behind(agenda, list(log)), Book(agenda.n, agenda.m, inputs))
                    decided = outcomes_behind(agenda, list(log))
                    self.assertEqual(decided, outcomes_of(agenda, log))
                    self.assertEqual(isinstance(decided, Clash), told is None)
                    if told is not None:
                        self.assertEqual(decided.told, tuple(told[entry] for entry in inputs))
                    seen["clash"] += told is None
                    seen["empty"] += len(inputs) == 0
                    seen["several"] += len(next_values(agenda, log)) > 1
        self.assertGreater(min(seen.values()), 4)

    def test_possible_and_stuck_logs_against_all_logs(self):
        seen = {True: 0, False: 0}
        for drawn, agenda in some_agendas(24, 406, slots=(1, 2, 3, 4)):
            found, logs = {}, all_logs_of(agenda)
            possible = sorted(log for log in logs if possible_by(agenda, log, found))
            stuck = [log for log in possible if is_stuck_by(agenda, log, found)]
            self.assertEqual(list(each_possible_log(agenda)), possible)
            self.assertEqual(list(each_stuck_log(agenda)), stuck)
            self.assertEqual(is_sound(agenda), not stuck)
            first = first_stuck(agenda)
            self.assertEqual(first, Stuck(stuck[0], outcomes_of(agenda, stuck[0])) if stuck else None)
            if stuck:
                self.assertEqual((first.log, first.clash), (stuck[0], outcomes_of(agenda, stuck[0])))
            seen[not stuck] += 1
        self.assertGreater(min(seen.values()), 15)

    def test_entries_and_the_first_item_that_is_not_possible(self):
        seen = {"all": 0, "not": 0}
        for drawn, agenda in some_agendas(8, 407):
            found = {}
            for log in all_logs_of(agenda):
                wrong = [at for at in range(len(log)) if log[at] not in next_by(agenda, log[:at], found)]
                if wrong:
                    self.assertEqual(error_of(entries_for, agenda, list(log)), ("NotPossible", wrong[0]))
                    seen["not"] += 1
                else:
                    entries = entries_for(agenda, list(log))
                    self.assertEqual(len(entries), len(log))
                    for at, entry in enumerate(entries):
                        inputs, told = decided_by_inputs(agenda, log[:at], found)
                        self.assertEqual(entry, min(other for other in inputs if told[other] == log[at]))
                    seen["all"] += 1
        self.assertGreater(min(seen.values()), 40)

    def test_stuck_is_a_result(self):
        clash = Clash("sure", (((0, 0), None),), ((0, 0),))
        stuck = Stuck([0, 1], clash)
        self.assertEqual((stuck.log, stuck.clash), ((0, 1), clash))
        self.assertEqual(stuck, Stuck((0, 1), Clash("sure", [[[0, 0], None]], [[0, 0]])))
        for other in (Stuck((0,), clash), Stuck((0, 1), None), ((0, 1), clash), None):
            self.assertNotEqual(stuck, other)

    def test_what_is_sound(self):
        """Point 15.9: a house that is in no lot; greatest values, keeps, and choices among such."""
        counts = {"sure house": 0, "tame": 0}
        for drawn, agenda in some_agendas(20, 408):
            if agenda.falls.sure:
                self.assertTrue(is_sound(agenda))
                counts["sure house"] += 1
        for drawn, agenda in some_agendas(20, 409, tame=True):
            if agenda.falls.covering is None or agenda.manner == "sure":
                self.assertTrue(is_sound(agenda))
                counts["tame"] += 1
        self.assertGreater(min(counts.values()), 8)

    def test_a_log_as_it_stands(self):
        falls = Falls.at_most(3, 1)
        agenda = Agenda(falls, 2, "letters", [("rule", ("firm greatest",)), ("choose", 0, (("rule", ("all",)), ("keeps", 0)))])
        self.assertEqual(list(each_possible_log(agenda)), [(), (0,), (1,), (1, 1)])
        self.assertEqual(list(each_stuck_log(agenda)), [(0,)])
        self.assertEqual(first_stuck(agenda), Stuck((0,), decide(book_of(falls, 2, ("all",)), falls, "letters")))
        self.assertEqual(entries_for(agenda, (1, 1)), ((0, 1, 1), (0, 1, 1)))
        self.assertEqual(error_of(entries_for, agenda, (0, 1)), ("NotPossible", 1))

    def test_large_agendas_take_little_time(self):
        agenda = Agenda(Falls.at_most(4, 1), 4, "letters", [("rule", ("firm greatest",))] * 6)
        begin = time.process_time()
        self.assertEqual(len(list(each_possible_log(agenda))), sum(4 ** length for length in range(7)))
        self.assertTrue(is_sound(agenda))
        self.assertLess(time.process_time() - begin, 5)
        logs = each_possible_log(agenda)
        self.assertEqual([next(logs) for _ in range(3)], [(), (0,), (0, 0)])


if __name__ == "__main__":
    unittest.main()
