"""Deeds of houses that send letters, and the letters."""

from firmvalues.errors import BadDeed
from firmvalues.inputs import as_tuples, is_sequence, is_whole

ARGUMENTS = {
    "propose": ("house", "value"),
    "write": ("house",),
    "send": ("house", "house"),
    "hand": ("at",),
    "double": ("at",),
    "lose": ("at",),
    "stop": ("house",),
    "wake": ("house",),
}


class Letter:
    """What stood on the disk of its sender: the view, and the outcome if it had told."""

    def __init__(self, sender, receiver, view, told):
        self.sender = sender
        self.receiver = receiver
        self.view = as_tuples(view)
        self.told = told

    def __eq__(self, other):
        return (isinstance(other, Letter) and self.sender == other.sender and self.receiver == other.receiver
                and self.view == other.view and self.told == other.told)


def first_word(deed, words):
    """The word that a deed begins with, if it is one of these; else None."""
    if not is_sequence(deed) or len(deed) == 0 or not isinstance(deed[0], str):
        return None
    return deed[0] if deed[0] in words else None


def check_deed(houses, values, deed):
    word = first_word(deed, tuple(ARGUMENTS))
    if word is None:
        raise BadDeed("word")
    names = ARGUMENTS[word]
    if len(deed) != len(names) + 1:
        raise BadDeed("length")
    for at in range(len(names)):
        if not _is_argument(houses, values, names[at], deed[at + 1]):
            raise BadDeed(names[at])
    return tuple(deed)


def _is_argument(houses, values, name, thing):
    if name == "house":
        return is_whole(thing, 0, houses - 1)
    if name == "value":
        return is_whole(thing, 0, values - 1)
    return is_whole(thing, 0)
