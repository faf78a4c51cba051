"""Seeking: the best pages of a view, found without looking at those that cannot be among them."""

from asifread.addresses import check_address
from asifread.kinds import is_just, is_number
from asifread.plain import best_of, check_asked, hit_of, ranked, rarity, weight
from asifread.questions import fits, words_asked


def sought(view, question, counts, k):
    """The k best hits, and the bounds of the pages that were passed by, by address."""
    check_asked(question, k)
    words = words_asked(question)
    bounds = bounds_of(view, words, counts)
    hits = []
    passed = {}
    # By falling bounds: once a page is passed by, all behind it are.
    for most, address in sorted([(-bounds[address], address) for address in bounds]):
        if is_beyond(-most, address, hits, k):
            passed[address] = -most
        elif fits(address, view.page(address), question):
            hit = hit_of(address, view.page(address), words, counts)
            hits = ranked(hits + [hit])[:k]
    return hits, passed


def bounds_of(view, words, counts):
    """For each shown page of the view a number that its worth doesn't exceed."""
    found = {word: view.found(word) for word in words}
    bounds = {}
    for address in view.shown():
        here = {word: found[word][address] for word in words if address in found[word]}
        bounds[address] = bound(words, counts, address, here)
    return bounds


def is_beyond(most, address, hits, k):
    """Whether there are k hits, and a page that is worth so much at most comes behind the last one."""
    if len(hits) < k:
        return False
    last, worth, _ = hits[-1]
    return most < worth or most == worth and address > last


def bound(words, counts, address, found):
    """What a page with these words would be worth if its body were of no length; no page is worth more."""
    check_address(address)
    rows = [(word, found[word][0], found[word][1], 0, rarity(word, counts)) for word in words if word in found]
    rows.append(("links", len(counts.links.get(address, ()))))
    return sum([weight(row) for row in rows])


def fair(view, question, counts, k, told):
    """Whether the thing told is such a pair as sought tells, each page being gone through."""
    check_asked(question, k)
    if not isinstance(told, tuple) or len(told) != 2:
        return False
    hits, passed = told
    pages = [(address, view.page(address)) for address in view.shown()]
    wanted = best_of(pages, question, k, counts)
    if not is_just(hits, wanted) or not isinstance(passed, dict):
        return False
    words = words_asked(question)
    worths = {address: hit_of(address, page, words, counts)[1] for address, page in pages}
    return all([is_fair(address, most, worths, wanted, k) for address, most in passed.items()])


def is_fair(address, most, worths, hits, k):
    """Whether a page may be passed by with that bound; a hit never may, as its bound is too great."""
    if not isinstance(address, str) or address not in worths or not is_number(most):
        return False
    return most >= worths[address] and is_beyond(most, address, hits, k)
