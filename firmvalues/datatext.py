"""Plain data and the texts that tell it."""

from firmvalues.errors import BadData, BadText, NoPart
from firmvalues.inputs import as_tuples, is_sequence, is_whole

DEEPEST = 12
GREATEST_NUMBER = 999999999
MOST_FIGURES = 9
MOST_SIGNS = 20
LETTERS = "abcdefghijklmnopqrstuvwxyz"
FIGURES = "0123456789"
GAPS = " \n"
NO_ATOM = " \n()"


class Span:
    """A part where it stands in a text; `parts` holds the spans within a tuple and is None for an atom."""

    def __init__(self, begin, end, data, parts):
        self.begin = begin
        self.end = end
        self.data = data
        self.parts = parts


def is_word(thing):
    if not isinstance(thing, str) or len(thing) > MOST_SIGNS:
        return False
    return all([word != "" and all([sign in LETTERS for sign in word]) for word in thing.split(" ")])


def check_data(data):
    return _checked(data, ())


def _checked(data, path):
    if is_sequence(data):
        if len(path) == DEEPEST:
            raise BadData(path)
        return tuple([_checked(data[at], path + (at,)) for at in range(len(data))])
    if data is None or is_whole(data, 0, GREATEST_NUMBER) or is_word(data):
        return data
    raise BadData(path)


def data_text(data):
    return _text_of(check_data(data))


def _text_of(data):
    if data is None:
        return "-"
    if isinstance(data, str):
        return data.replace(" ", "_")
    if isinstance(data, tuple):
        return "(" + " ".join([_text_of(part) for part in data]) + ")"
    return str(data)


def read_data(text):
    return _read(text).data


def _read(text):
    """The span of the one part of a text."""
    found = []
    open_tuples = []
    behind_atom = False
    at = 0
    while at < len(text):
        sign = text[at]
        if sign in GAPS:
            behind_atom = False
            at += 1
        elif len(found) > 0 or (behind_atom and sign not in NO_ATOM):
            raise BadText(at)
        elif sign in NO_ATOM:
            behind_atom = False
            _read_bracket(text, at, found, open_tuples)
            at += 1
        else:
            end = _atom_end(text, at)
            behind_atom = True
            _add_span(Span(at, end, _atom_of(text[at:end]), None), found, open_tuples)
            at = end
    if len(found) == 0:
        raise BadText(len(text))
    return found[0]


def _read_bracket(text, at, found, open_tuples):
    if text[at] == "(":
        if len(open_tuples) == DEEPEST:
            raise BadText(at)
        open_tuples.append((at, []))
    else:
        if len(open_tuples) == 0:
            raise BadText(at)
        begin, parts = open_tuples.pop()
        data = tuple([part.data for part in parts])
        _add_span(Span(begin, at + 1, data, tuple(parts)), found, open_tuples)


def _add_span(span, found, open_tuples):
    if len(open_tuples) == 0:
        found.append(span)
    else:
        open_tuples[-1][1].append(span)


def _atom_end(text, begin):
    """The end of the atom that begins here; of a longer row of its signs only the end of what an atom may hold."""
    sign = text[begin]
    if sign == "-" or sign == "0":
        return begin + 1
    if sign in FIGURES:
        return _number_end(text, begin)
    if sign in LETTERS:
        return _word_end(text, begin)
    raise BadText(begin)


def _number_end(text, begin):
    end = begin
    while end < len(text) and end - begin < MOST_FIGURES and text[end] in FIGURES:
        end += 1
    return end


def _word_end(text, begin):
    end = begin
    while end < len(text) and end - begin < MOST_SIGNS:
        if text[end] not in LETTERS and not _joins_words(text, begin, end):
            break
        end += 1
    if text[end - 1] == "_":
        raise BadText(end)
    return end


def _joins_words(text, begin, at):
    """A letter must follow the `_`, so it is not the last sign that a word may have."""
    return text[at] == "_" and text[at - 1] != "_" and at - begin < MOST_SIGNS - 1


def _atom_of(signs):
    if signs == "-":
        return None
    if signs[0] in FIGURES:
        return int(signs)
    return signs.replace("_", " ")


def _steps_of(path):
    if not is_sequence(path):
        raise NoPart(path)
    return tuple(path)


def data_at(data, path):
    steps = _steps_of(path)
    part = data
    for step in steps:
        if not is_sequence(part) or not is_whole(step, 0, len(part) - 1):
            raise NoPart(steps)
        part = part[step]
    return as_tuples(part)


def data_with(data, path, part):
    steps = _steps_of(path)
    around = []
    within = data
    for at in range(len(steps)):
        if not is_sequence(within) or not is_whole(steps[at], 0, len(within) - 1):
            raise NoPart(steps[at:])
        around.append(within)
        within = within[steps[at]]
    made = as_tuples(part)
    for at in reversed(range(len(steps))):
        row = as_tuples(around[at])
        made = row[:steps[at]] + (made,) + row[steps[at] + 1:]
    return made


def depth_of(data):
    if not is_sequence(data):
        return 0
    return 1 + max([depth_of(part) for part in data], default=0)


def span_of(text, path):
    span = _span_at(text, path)
    return span.begin, span.end


def _span_at(text, path):
    span = _read(text)
    steps = _steps_of(path)
    for step in steps:
        if span.parts is None or not is_whole(step, 0, len(span.parts) - 1):
            raise NoPart(steps)
        span = span.parts[step]
    return span


def path_at(text, at):
    span = _read(text)
    if not _holds(span, at):
        return None
    path = ()
    step = _step_to(span, at)
    while step is not None:
        path += (step,)
        span = span.parts[step]
        step = _step_to(span, at)
    return path


def _holds(span, at):
    return is_whole(at, span.begin, span.end - 1)


def _step_to(span, at):
    """The number of the part of a tuple that holds the place, None if there is none."""
    if span.parts is not None:
        for step in range(len(span.parts)):
            if _holds(span.parts[step], at):
                return step
    return None


def text_with(text, path, part):
    span = _span_at(text, path)
    new = data_text(part)
    if len(path) + depth_of(part) > DEEPEST:
        raise BadData(tuple(path))
    ahead = text[:span.begin]
    behind = text[span.end:]
    return ahead + _gap_between(ahead, new) + new + _gap_between(new, behind) + behind


def _gap_between(ahead, behind):
    """A blank if two atoms would meet."""
    if ahead == "" or behind == "" or ahead[-1] in NO_ATOM or behind[0] in NO_ATOM:
        return ""
    return " "
