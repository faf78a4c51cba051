"""Parts: entries that follow one another, and the words of their texts."""

from asifread.addresses import check_address, is_address
from asifread.coding import Taker, number_row, text_row
from asifread.errors import BadRow, NoEntry, NotBeside
from asifread.kinds import is_between, is_list
from asifread.pages import parsed
from asifread.words import words_in

# The first number of each entry that a Part tells.
LET_GO = 0
GONE = 1
PAGE = 2


class Part:
    """Entries numbered from first on, of which some may be let go: None."""

    def __init__(self, first, entries):
        self.first = first
        self.end = first + len(entries)
        self.entries = list(entries)
        self.by_word = None

    def __eq__(self, other):
        return isinstance(other, Part) and self.first == other.first and self.entries == other.entries

    def entry(self, number):
        """The entry of that number, or None."""
        if not is_between(number, self.first, self.end - 1):
            raise NoEntry("no entry of that number")
        return self.entries[number - self.first]

    def numbers(self, address):
        """The rising list of the numbers of the address's entries."""
        check_address(address)
        numbered = enumerate(self.entries, start=self.first)
        return [number for number, entry in numbered if entry is not None and entry[0] == address]

    def all_words(self):
        """The rising list of all words that stand in texts of pages that aren't hidden."""
        return sorted(self.words_found())

    def postings(self, word):
        """The list of (number, times in the body, times in the title) of these texts in which the word stands."""
        return list(self.words_found().get(word, []))

    def words_found(self):
        """The postings of each word."""
        # Made when first asked for: many parts are poured on without ever being asked.
        if self.by_word is None:
            self.by_word = postings_of(self.first, self.entries)
        return self.by_word

    def numbers_told(self):
        """The row of numbers by which part_of tells the Part again."""
        row = number_row(self.first) + number_row(len(self.entries))
        for entry in self.entries:
            row.extend(entry_row(entry))
        return row


def postings_of(first, entries):
    """For each word of these entries' texts, hidden pages left out: where it stands, and how often."""
    found = {}
    for number, entry in enumerate(entries, start=first):
        if entry is None or entry[1] is None:
            continue
        page = parsed(entry[1])
        if page.hidden:
            continue
        body, title = words_in(page.body), words_in(page.title)
        for word in sorted(set(body + title)):
            found.setdefault(word, []).append((number, body.count(word), title.count(word)))
    return found


def entry_row(entry):
    """The row of numbers of an entry, or of one that is let go."""
    if entry is None:
        return [LET_GO]
    address, text, tick = entry
    told = text_row(address) + number_row(tick)
    return [GONE] + told if text is None else [PAGE] + told + text_row(text)


def part_of(row):
    """The Part that tells this row."""
    if not is_list(row) or not all([is_between(part, 0, 255) for part in row]):
        raise BadRow(0)
    taker = Taker(row)
    first = taker.take_number()
    many = taker.take_number()
    entries = []
    while len(entries) < many:
        entries.append(taken_entry(taker))
    if many == 0 or not taker.at_end():
        raise BadRow(taker.at)
    return Part(first, entries)


def taken_entry(taker):
    """The entry that stands in the row here, or None of one that is let go."""
    kind = taker.take_number()
    if kind == LET_GO:
        return None
    if kind not in (GONE, PAGE):
        raise BadRow(taker.at)
    address = taker.take_text()
    if not is_address(address):
        raise BadRow(taker.at)
    tick = taker.take_number()
    return address, taker.take_text() if kind == PAGE else None, tick


def poured(one, other, floor):
    """The Part of both, without the entries behind which one of their address below floor stands in it."""
    if one.end != other.first:
        raise NotBeside("one's end is not other's first")
    entries = one.entries + other.entries
    last = {}
    for number, entry in enumerate(entries, start=one.first):
        if entry is not None and number < floor:
            last[entry[0]] = number
    kept = []
    for number, entry in enumerate(entries, start=one.first):
        stays = entry is None or number >= last.get(entry[0], number)
        kept.append(entry if stays else None)
    return Part(one.first, kept)
