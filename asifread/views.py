"""Views: what stands behind the first so many entries of a shelf, as it stays whatever is done later."""

from asifread.plain import counts_of, shown_pages


class View:
    """The pages of each address's last entry, of those numbered below moment; struck ones are not shown."""

    def __init__(self, parts, moment, struck):
        # A Part never changes, so later deeds of the shelf change nothing here.
        self.parts_kept = list(parts)
        numbers, last = last_entries(parts, moment)
        standing = [last[address] for address in sorted(last) if last[address][1] is not None]
        self.looks = {address: (text, tick) for address, text, tick in standing}
        self.pages = dict(shown_pages({entry[0]: entry[1] for entry in standing}, struck))
        self.shown_at = {numbers[address]: address for address in self.pages}

    def book(self):
        """The address of each page that stands, shown or not, with its text and tick."""
        return dict(self.looks)

    def counts(self):
        """The Counts of the shown pages."""
        return counts_of(list(self.pages.items()))

    def shown(self):
        """The rising list of the addresses of shown pages."""
        return list(self.pages)

    def page(self, address):
        """The shown page at the address, or None of anything else."""
        return self.pages.get(address) if isinstance(address, str) else None

    def found(self, word):
        """The address of each shown page in which the word stands, with how often in body and title."""
        if not isinstance(word, str):
            return {}
        found = {}
        for part in self.parts_kept:
            for number, in_body, in_title in part.postings(word):
                # Other entries are elder than the last one, behind the moment, or struck.
                if number in self.shown_at:
                    found[self.shown_at[number]] = (in_body, in_title)
        return {address: found[address] for address in sorted(found)}


def last_entries(parts, moment):
    """For each address the number of its last entry numbered below moment; and the entry itself."""
    numbers = {}
    last = {}
    for part in parts:
        for number in range(part.first, min(part.end, moment)):
            entry = part.entry(number)
            if entry is not None:
                numbers[entry[0]] = number
                last[entry[0]] = entry
    return numbers, last
