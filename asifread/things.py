"""Things as texts, there and back: numbers, None, truths, texts, and tuples of these."""

from asifread.errors import NoText
from asifread.kinds import is_number, made_of, run_end

FIGURES = "0123456789"
# For each sign that stands in a text behind a back stroke, what it tells.
STROKED = {'"': '"', "\\": "\\", "n": "\n"}
# Beyond so many tuples within one another nothing is read, lest Python itself gives up.
DEEPEST = 60


def thing_text(thing):
    """The text of the thing."""
    if thing is None:
        return "none"
    if isinstance(thing, bool):
        return "yes" if thing else "no"
    if is_number(thing):
        return str(thing)
    if isinstance(thing, str):
        stroked = thing.replace("\\", "\\\\").replace('"', '\\"')
        return '"' + stroked.replace("\n", "\\n") + '"'
    return "(" + ", ".join([thing_text(part) for part in thing]) + ")"


def read_thing(text):
    """The thing that is just so written."""
    if not isinstance(text, str):
        raise NoText(0)
    thing, end = thing_at(text, 0, DEEPEST)
    if end < len(text):
        raise NoText(0)
    return thing


def thing_at(text, at, deep):
    """The thing that is written from this place on, and the place behind it."""
    sign = text[at:at + 1]
    if sign == "(":
        return tuple_at(text, at + 1, deep)
    if sign == '"':
        return text_at(text, at + 1)
    end = run_end(text, at, ",)")
    return word_told(text[at:end]), end


def tuple_at(text, at, deep):
    """The tuple whose things are written from this place on, and the place behind its bracket."""
    if deep == 0:
        raise NoText(0)
    if text[at:at + 1] == ")":
        return (), at + 1
    found = []
    while True:
        thing, end = thing_at(text, at, deep - 1)
        found.append(thing)
        if text[end:end + 1] == ")":
            return tuple(found), end + 1
        if text[end:end + 2] != ", ":
            raise NoText(0)
        at = end + 2


def text_at(text, at):
    """The text whose signs are written from this place on, and the place behind its quote."""
    found = []
    while True:
        end = run_end(text, at, '"\\\n')
        found.append(text[at:end])
        if text[end:end + 1] == '"':
            return "".join(found), end + 1
        # A line feed is never written as it is, and a text that isn't ended has no sign here.
        if text[end:end + 1] != "\\" or text[end + 1:end + 2] not in STROKED:
            raise NoText(0)
        found.append(STROKED[text[end + 1]])
        at = end + 2


def word_told(word):
    """The number, truth or None that is so written."""
    if word in ("none", "yes", "no"):
        return None if word == "none" else word == "yes"
    figures = word[1:] if word.startswith("-") else word
    if figures == "" or not made_of(figures, FIGURES):
        raise NoText(0)
    if figures.startswith("0") and word != "0":
        raise NoText(0)
    return int(word)
