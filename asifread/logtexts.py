"""Logs as texts, there and back."""

from asifread.errors import NoText
from asifread.things import read_thing, thing_text


def log_text(log):
    """The text of the log, each row ended by a line feed."""
    return "".join([thing_text(row) + "\n" for row in log])


def read_log(text):
    """The list of the rows that are so written."""
    if not isinstance(text, str):
        raise NoText(0)
    lines = text.split("\n")
    rows = [read_row(line, at) for at, line in enumerate(lines[:-1])]
    # Behind the last line feed nothing may stand.
    if lines[-1] != "":
        raise NoText(len(rows))
    return rows


def read_row(line, at):
    """The tuple that is so written, in the row of that number."""
    try:
        row = read_thing(line)
    except NoText:
        raise NoText(at)
    if not isinstance(row, tuple):
        raise NoText(at)
    return row
