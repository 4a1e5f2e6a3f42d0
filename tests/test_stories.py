"""firmvalues.stories: points 16.4 and 16.5, stories, straight courses with backs and cuts in one another, and their texts."""

import random
import unittest

from firmvalues.datatext import data_text, read_data
from firmvalues.desk import Desk
from firmvalues.errors import BadData
from firmvalues.foldtext import folded_text
from firmvalues.inputs import as_tuples
from firmvalues.stories import desk_from, desk_from_text, straight_course
from desks import page_parts
from reckon import NO_SEQUENCES, error_of
from test_desk import NO_NUMBERS, drawn_story
from test_service import as_lists


def straight_by(course):
    """The straight course, or the index of the back with nothing to take back, by crossing out again and again."""
    deeds = [(index, as_tuples(deed)) for index, deed in enumerate(course)]
    while True:
        backs = [at for at, (_, deed) in enumerate(deeds) if deed == ("back",)]
        if not backs:
            break
        if backs[0] == 0:
            return deeds[0][0]
        del deeds[backs[0] - 1:backs[0] + 1]
    kept = [deed for _, deed in deeds]
    while True:
        couples = [at for at in range(len(kept) - 1) if kept[at:at + 2] == [("cut",), ("resume",)]]
        if not couples:
            return tuple(kept)
        del kept[couples[-1]:couples[-1] + 2]


def drawn_course(drawn, n, m, many, backs=0.12, cuts=0.0):
    """A course of deeds none of which is refused, backs among them, and the answers to them."""
    desk, course, answers = Desk(n, m), [], []
    story = drawn_story(drawn, n, m, 10 ** 6, 0)
    for _ in range(many):
        deed = ("back",) if drawn.random() < backs else next(story)[0]
        if error_of(desk.trial, [deed]) is None and desk.trial([deed]).refused is None:
            course.append(deed)
            answers.append(desk.act(deed))
        if drawn.random() < cuts and desk.page.service is not None:
            for other in (("cut",), ("resume",)):
                course.append(other)
                answers.append(desk.act(other))
    return course, answers, desk


class TestStories(unittest.TestCase):
    def test_desks_behind_courses(self):
        drawn, seen = random.Random(471), {"back": 0, "cut": 0, "refused": 0}
        for n, m in ((2, 2), (3, 2), (2, 3)):
            for _ in range(8):
                course, answers, desk = drawn_course(drawn, n, m, 60, 0.15, 0.05)
                made = desk_from(n, m, as_lists(tuple(course)))
                self.assertEqual((made.page, made.done), (desk.page, desk.done))
                self.assertEqual(page_parts(made.page), page_parts(desk.page))
                self.assertEqual(made.act(("manner", "sure")), ("manner", "sure"))
                at = drawn.randrange(len(course) + 1)
                for wrong in (None, ("cut", 0), ("falls", True), ["back", 1], ("resumed",)):
                    spoilt = course[:at] + [wrong, wrong] + course[at:]
                    self.assertEqual(error_of(desk_from, n, m, spoilt), ("BadStory", at))
                seen["back"] += ("back",) in course
                seen["cut"] += ("cut",) in course
                seen["refused"] += at > 0
        self.assertGreater(min(seen.values()), 5)

    def test_no_desks(self):
        for course in ((), [None]):
            for houses in NO_NUMBERS + (1, 6):
                self.assertEqual(error_of(desk_from, houses, 9, course), ("BadDesk", "houses"))
            for values in NO_NUMBERS + (0, 5):
                self.assertEqual(error_of(desk_from, 5, values, course), ("BadDesk", "values"))
            self.assertEqual(error_of(desk_from, 5, 4, course), ("BadDesk", "many"))
        self.assertEqual(desk_from(2, 2, []).done, ())

    def test_new_desks_are_of_their_own(self):
        course = [["manner", "sure"]]
        one, other = desk_from(2, 2, course), desk_from(2, 2, course)
        one.act(("back",))
        course[0][1] = "cells"
        self.assertEqual((other.done, other.page.manner), ((("manner", "sure"),), "sure"))


class TestStraightCourses(unittest.TestCase):
    def test_backs_and_cuts_in_one_another(self):
        drawn, seen = random.Random(472), {"story": 0, "cuts": 0}
        deeds = [("cut",), ["resume"], ("cut",), ("resume",), ["back"], ("back",), ("begin",), ["falls", [[0]]], None, 5, "cut",
                 ("back", 0), ("cut", 0), ["resume", None], (), True, ("backs",)]
        for _ in range(3000):
            course = [drawn.choice(deeds[:drawn.choice([4, 8, 17])]) for _ in range(drawn.randrange(14))]
            kept = as_tuples(course)
            wanted = straight_by(course)
            if isinstance(wanted, int):
                self.assertEqual(error_of(straight_course, course), ("BadStory", wanted), course)
                seen["story"] += 1
            else:
                self.assertEqual(straight_course(course), wanted, course)
                self.assertEqual(straight_course(tuple(course)), wanted)
                seen["cuts"] += len(wanted) < len(course)
            self.assertEqual(as_tuples(course), kept)
        self.assertGreater(min(seen.values()), 300)

    def test_courses_as_they_stand(self):
        cut, resume, back, begin, calm = ("cut",), ("resume",), ("back",), ("begin",), ("calm",)
        for course, wanted in (([], ()), ([begin, back], ()), ([begin, calm, back, back], ()), ([cut, resume], ()),
                               ([cut, cut, resume, resume], ()), ([cut, calm, resume], (cut, calm, resume)),
                               ([resume, cut], (resume, cut)), ([cut, resume, resume], (resume,)),
                               ([cut, resume, back], (cut,)), ([cut, calm, back, resume], ()),
                               ([begin, cut, resume, calm, cut, resume], (begin, calm)),
                               ([cut, resume, back, resume], ()), ([["slots", [["rule", ["all"]]]]], (("slots", (("rule", ("all",)),)),))):
            self.assertEqual(straight_course(course), wanted)
        for course, index in (([back], 0), ([begin, back, back], 2), ([begin, back, begin, back, back, back], 4),
                              ([["back"], None], 0)):
            self.assertEqual(error_of(straight_course, course), ("BadStory", index))

    def test_what_holds_for_every_course(self):
        drawn, seen = random.Random(473), 0
        for n, m in ((2, 2), (3, 2), (2, 3), (2, 1)):
            for _ in range(8):
                course, answers, desk = drawn_course(drawn, n, m, 70, 0.15, 0.1)
                straight = straight_course(course)
                self.assertEqual(straight, straight_by(course))
                self.assertEqual(desk_from(n, m, desk.done).page, desk.page)
                self.assertEqual(desk_from(n, m, straight).page, desk.page)
                self.assertEqual(desk_from(n, m, desk.done).done, desk.done)
                seen += len(straight) < len(course)
        self.assertGreater(seen, 20)

    def test_cut_and_resumed_anywhere_all_later_answers_are_the_same(self):
        drawn, cuts = random.Random(474), 0
        for n, m in ((2, 2), (3, 2), (2, 3)):
            for _ in range(8):
                course, answers, _ = drawn_course(drawn, n, m, 60, 0)
                desk = Desk(n, m)
                for deed, answer in zip(course, answers):
                    while desk.page.service is not None and drawn.random() < 0.3:
                        logs = desk.trial([("cut",), ("resume",)])
                        self.assertIsNone(logs.refused)
                        desk.act(["cut"])
                        desk.act(["resume"])
                        cuts += 1
                    self.assertEqual(desk.act(deed), answer)
        self.assertGreater(cuts, 50)


class TestTexts(unittest.TestCase):
    def test_stories_read_from_texts(self):
        drawn, read = random.Random(475), 0
        for n, m in ((2, 2), (3, 2), (2, 3)):
            for _ in range(8):
                course, answers, desk = drawn_course(drawn, n, m, 40, 0.1, 0.05)
                if error_of(data_text, course) is not None:
                    continue
                for text in (data_text(course), folded_text(course, 40), " " + data_text(course).replace(" ", "\n ")):
                    made = desk_from_text(n, m, text)
                    self.assertEqual((made.page, made.done), (desk.page, desk.done))
                spoilt = course + [("cut", 0)]
                self.assertEqual(error_of(desk_from_text, n, m, data_text(spoilt)), ("BadStory", len(course)))
                read += 1
        self.assertGreater(read, 12)
        self.assertRaises(BadData, data_text, [[-1]])

    def test_what_comes_first(self):
        for text in ("", "(", "(begin", "((begin) X)", ")", "01", "(begin))"):
            told = error_of(read_data, text)
            for houses in (2, 9, True):
                self.assertEqual(error_of(desk_from_text, houses, 9, text), told)
        for text in ("-", "0", "begin", " cut ", "999999999"):
            for houses in (2, 9):
                self.assertEqual(error_of(desk_from_text, houses, 9, text), ("BadStory", 0))
        for text in ("()", "((begun))", "(0)"):
            self.assertEqual(error_of(desk_from_text, 9, 9, text), ("BadDesk", "houses"))
            self.assertEqual(error_of(desk_from_text, 2, 0, text), ("BadDesk", "values"))
        for text, index in (("(0)", 0), ("(begin)", 0), ("((begin) (calm) -)", 2), ("((back))", 0), ("((begin) (back) (calm))", 2)):
            self.assertEqual(error_of(desk_from_text, 2, 2, text), ("BadStory", index))
        self.assertEqual(desk_from_text(2, 2, "()").done, ())
        made = desk_from_text(3, 2, "((falls ((0) (1) (2))) (slots ((rule (firm_greatest)))) (begin) (service (slot 0 (propose 0 1))))")
        self.assertEqual(made.done[-1], ("service", ("slot", 0, ("propose", 0, 1))))
        self.assertEqual(made.page.service.nets[0].memories[0].view, (1, None, None))
        self.assertEqual(len(NO_SEQUENCES), 9)


if __name__ == "__main__":
    unittest.main()
