"""firmvalues.letters: points 13.2 and 13.3, every word at deeds with one place spoilt, or two."""

import itertools
import unittest

from firmvalues.letters import Letter, check_deed
from reckon import NO_SEQUENCES, error_of

ARGUMENTS = {"propose": ("house", "value"), "write": ("house",), "send": ("house", "house"), "hand": ("at",),
             "double": ("at",), "lose": ("at",), "stop": ("house",), "wake": ("house",)}
NO_NUMBERS = (True, False, None, -1, "0", "house", 0.5, (0,), [0], {}, {0})
NO_WORDS = ("", "Write", "writes", "fall", "step", "back", b"write", None, True, 0, ("write",), ["write"], {}, {0}, 1.5)


def right_arguments(n, m, name):
    return {"house": range(n), "value": range(m), "at": (0, 1, 7, 10 ** 40)}[name]


def wrong_arguments(n, m, name):
    return NO_NUMBERS + {"house": (n, n + 5, -7), "value": (m, m + 1, -2), "at": (-3, -10 ** 30)}[name]


class TestDeeds(unittest.TestCase):
    def each_right_deed(self, n, m):
        for word, names in ARGUMENTS.items():
            for arguments in itertools.product(*[right_arguments(n, m, name) for name in names]):
                yield (word, *arguments)

    def test_right_deeds_come_back_as_tuples(self):
        for n, m in itertools.product((2, 3, 5), (1, 2, 4)):
            for deed in self.each_right_deed(n, m):
                for thing in (deed, list(deed)):
                    self.assertEqual(check_deed(n, m, thing), deed)
                    self.assertIs(type(check_deed(n, m, thing)), tuple)

    def test_what_is_changed_later_has_no_effect(self):
        deed = ["propose", 1, 0]
        checked = check_deed(2, 2, deed)
        deed[1] = 0
        self.assertEqual(checked, ("propose", 1, 0))

    def test_one_place_spoilt(self):
        for n, m in ((2, 1), (3, 2), (5, 4)):
            for deed in self.each_right_deed(n, m):
                for at, name in enumerate(ARGUMENTS[deed[0]]):
                    for thing in wrong_arguments(n, m, name):
                        spoilt = [*deed[:at + 1], thing, *deed[at + 2:]]
                        self.assertEqual(error_of(check_deed, n, m, spoilt), ("BadDeed", name))
                        self.assertEqual(error_of(check_deed, n, m, tuple(spoilt)), ("BadDeed", name))

    def test_two_arguments_spoilt_tell_the_first(self):
        for word, names in ARGUMENTS.items():
            if len(names) == 2:
                for one in wrong_arguments(3, 2, names[0]):
                    for other in wrong_arguments(3, 2, names[1]):
                        self.assertEqual(error_of(check_deed, 3, 2, [word, one, other]), ("BadDeed", names[0]))

    def test_no_deed_at_all(self):
        for thing in NO_SEQUENCES + ((), [], "write", ("writes", 0)):
            self.assertEqual(error_of(check_deed, 3, 2, thing), ("BadDeed", "word"))
        for word in NO_WORDS:
            for rest in ((), (0,), (0, 0), (9, 9, 9)):
                self.assertEqual(error_of(check_deed, 3, 2, (word, *rest)), ("BadDeed", "word"))

    def test_another_number_of_items(self):
        for word, names in ARGUMENTS.items():
            for many in range(5):
                for thing in (0, None, 99):
                    told = error_of(check_deed, 3, 2, [word] + [thing] * many)
                    if many != len(names):
                        self.assertEqual(told, ("BadDeed", "length"))
                    else:
                        self.assertEqual(told is None, thing == 0 or (thing == 99 and names == ("at",)))


class TestLetter(unittest.TestCase):
    def test_attributes_and_equality(self):
        letter = Letter(0, 2, [None, 1, 0], 1)
        self.assertEqual(list(vars(letter).items()), [("sender", 0), ("receiver", 2), ("view", (None, 1, 0)), ("told", 1)])
        self.assertEqual(letter, Letter(0, 2, (None, 1, 0), 1))
        self.assertEqual(letter, Letter(sender=0, receiver=2, view=(None, 1, 0), told=1))
        for other in (Letter(1, 2, (None, 1, 0), 1), Letter(0, 1, (None, 1, 0), 1), Letter(0, 2, (None, 1, 1), 1),
                      Letter(0, 2, (None, 1, 0), None), (0, 2, (None, 1, 0), 1), None, "letter"):
            self.assertNotEqual(letter, other)

    def test_it_keeps_its_view(self):
        view = [0, None]
        letter = Letter(0, 1, view, None)
        view[1] = 1
        self.assertEqual(letter.view, (0, None))


if __name__ == "__main__":
    unittest.main()
