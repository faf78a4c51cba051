"""What a page is worth, reckoned plainly by going through all pages of a book."""

from asifread.addresses import check_address, house_of
from asifread.kinds import check_count
from asifread.pages import links_of, parsed
from asifread.questions import check_question, fits, words_asked
from asifread.words import words_in

MOST_HITS = 10
LONGEST_PREFIX = 35


class Counts:
    """How many pages are shown, in how many each word stands, and which houses lead to each address."""

    def __init__(self, pages, words, links):
        self.pages = pages
        self.words = words
        self.links = links


def is_prefix(thing):
    """Whether the thing is a prefix: a text of 1 to 35 signs."""
    return isinstance(thing, str) and 1 <= len(thing) <= LONGEST_PREFIX


def counted(book, *, struck=()):
    """The Counts of the book's shown pages."""
    return counts_of(shown_pages(book, struck))


def shown_pages(book, struck):
    """The list of (address, Page) of the book's shown pages, rising."""
    for address in book:
        check_address(address)
    pages = [(address, parsed(book[address])) for address in sorted(book)]
    return [(address, page) for address, page in pages if is_shown(address, page, struck)]


def is_shown(address, page, struck):
    """Whether the page is not hidden, and its address begins with no struck prefix."""
    return not page.hidden and not any([address.startswith(prefix) for prefix in struck])


def counts_of(pages):
    """The Counts of pages that are all shown, told as (address, Page)."""
    words = {}
    links = {}
    for address, page in pages:
        house = house_of(address)
        for word in sorted(set(words_in(page.title) + words_in(page.body))):
            words[word] = words.get(word, 0) + 1
        for led in links_of(address, page):
            if house_of(led) != house:
                links.setdefault(led, []).append(house)
    return rising_counts(len(pages), words, links)


def rising_counts(pages, words, links):
    """The Counts of these, in order; of links, houses may come more than once in a list."""
    rising_words = {word: words[word] for word in sorted(words)}
    rising_links = {led: tuple(sorted(set(links[led]))) for led in sorted(links)}
    return Counts(pages, rising_words, rising_links)


def joined(some):
    """The Counts of all pages of which some Counts tell."""
    pages = 0
    words = {}
    links = {}
    for counts in some:
        pages += counts.pages
        for word, many in counts.words.items():
            words[word] = words.get(word, 0) + many
        for led, houses in counts.links.items():
            links.setdefault(led, []).extend(houses)
    return rising_counts(pages, words, links)


def why(address, page, words, counts):
    """The list of rows that make up what the page is worth."""
    check_address(address)
    title = words_in(page.title)
    body = words_in(page.body)
    rows = []
    for word in words:
        in_body, in_title = body.count(word), title.count(word)
        if in_body + in_title > 0:
            rows.append((word, in_body, in_title, len(body), rarity(word, counts)))
    rows.append(("links", len(counts.links.get(address, ()))))
    return rows


def rarity(word, counts):
    """How rare the word is: 91 where it stands in no page, 1 where it stands in all."""
    pages = counts.pages
    if pages == 0:
        return 1
    # Counts may be of fewer pages than those in which the word is looked for.
    many = min(counts.words.get(word, 0), pages)
    return 1 + (90 * (pages - many)) // pages


def weight(row):
    """What one row of why is worth."""
    # `links` is not its own root, so no row of a word begins with it.
    if row[0] == "links":
        return 25 * row[1]
    _, in_body, in_title, length, rare = row
    return rare * (120 * in_body // (in_body + 2 + length // 16) + 60 * min(in_title, 2))


def best(book, question, k, *, struck=()):
    """The list of (address, worth, why) of the k worthiest shown pages that the question fits."""
    pages = shown_pages(book, struck)
    check_asked(question, k)
    return best_of(pages, question, k, counts_of(pages))


def check_asked(question, k):
    """Refuse what is no question, then a number of hits that isn't from 1 to 10."""
    check_question(question)
    check_count(k, 1, MOST_HITS)


def best_of(pages, question, k, counts):
    """The k worthiest hits by these counts, of pages that are all shown, told as (address, Page)."""
    words = words_asked(question)
    hits = [hit_of(address, page, words, counts) for address, page in pages if fits(address, page, question)]
    return ranked(hits)[:k]


def hit_of(address, page, words, counts):
    """The page as a hit: (address, worth, why)."""
    rows = why(address, page, words, counts)
    return address, sum([weight(row) for row in rows]), rows


def ranked(hits):
    """These hits, the worthiest first, of like ones the lesser address."""
    return sorted(hits, key=lambda hit: (-hit[1], hit[0]))
