"""Entries, and rows of numbers from 0 to 255 that tell numbers and texts."""

from asifread.addresses import is_address
from asifread.errors import BadRow
from asifread.kinds import TEXT_SIGNS, is_number, made_of


def is_entry(thing):
    """Whether the thing is an entry: (address, text or None, tick)."""
    if not isinstance(thing, tuple) or len(thing) != 3:
        return False
    address, text, tick = thing
    # A text with another sign could be written, but not read again.
    if text is not None and not (isinstance(text, str) and made_of(text, TEXT_SIGNS)):
        return False
    return is_address(address) and is_number(tick) and tick >= 0


def number_row(n):
    """The number, seven bits to each number of the row, the lowest first, 128 more in all but the last."""
    row = []
    while n > 127:
        row.append(n % 128 + 128)
        n = n // 128
    row.append(n)
    return row


def text_row(text):
    """The text's length, then its codes."""
    row = number_row(len(text))
    for sign in text:
        row.extend(number_row(ord(sign)))
    return row


def number_at(row, at):
    """The number that begins at this place, and the place behind it."""
    end = at
    while end < len(row) and row[end] >= 128:
        end += 1
    # A 0 behind others would tell what is told without it, and each number is written in one way alone.
    if end == len(row) or row[end] == 0 and end > at:
        raise BadRow(end)
    number = 0
    for part in reversed(row[at:end + 1]):
        number = number * 128 + part % 128
    return number, end + 1


class Taker:
    """Takes what a row of numbers tells, one thing behind the other."""

    def __init__(self, row):
        self.row = list(row)
        self.at = 0
        self.signs = {ord(sign): sign for sign in TEXT_SIGNS}

    def take_number(self):
        """The number that stands here."""
        number, self.at = number_at(self.row, self.at)
        return number

    def take_text(self):
        """The text that stands here."""
        length, at = number_at(self.row, self.at)
        found = []
        while len(found) < length:
            code, behind = number_at(self.row, at)
            if code not in self.signs:
                raise BadRow(at)
            found.append(self.signs[code])
            at = behind
        # Not earlier, so that a text that is refused leaves the place as it was.
        self.at = at
        return "".join(found)

    def at_end(self):
        """Whether all has been taken."""
        return self.at == len(self.row)
