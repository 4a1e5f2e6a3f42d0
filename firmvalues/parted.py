"""The course in which two lots that cover all houses part a net into halves."""


def parted_course(falls, one, other):
    if falls.covering is None:
        return None
    first, second = falls.covering
    halves = [tuple([house for house in range(falls.n) if house not in lot]) for lot in (first, second)]
    course = []
    for half, entry in ((halves[0], one), (halves[1], other)):
        for house in half:
            course.extend([("propose", house, entry[house]), ("write", house)])
    for half in halves:
        course.extend(_exchange(half) + _exchange(half))
    return tuple(course)


def _exchange(half):
    """Each sends to each other one, all letters are handed, each writes; no other letter is on the way."""
    sends = [("send", sender, receiver) for sender in half for receiver in half if sender != receiver]
    return sends + [("hand", 0)] * len(sends) + [("write", house) for house in half]
