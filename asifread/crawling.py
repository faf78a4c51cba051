"""Crawling: what a world tells of the addresses that are to be looked at, and the entries that come of it."""

from asifread.addresses import linked
from asifread.pages import links_of, parsed


def looked_all(frontier, world, tick):
    """Ask the world for all that is to be looked at; tell the list of (address, answer)."""
    # All are asked ahead of the first change: what the world raises leaves the frontier as it is.
    looks = [(address, tuple(world(address, tick))) for address in frontier.picks(tick)]
    for address, answer in looks:
        frontier.looked(address, tick, links_told(address, answer))
    return looks


def links_told(address, answer):
    """The list of the addresses to which the answer leads."""
    if answer[0] == "page":
        return links_of(address, parsed(answer[1]))
    if answer[0] == "moved":
        found = linked(address, answer[1])
        return [] if found is None or found == address else [found]
    return []


def entries_of(tick, looks):
    """The entries of these looks, in order; of silent ones nothing is told."""
    told = [(address, answer) for address, answer in looks if answer[0] != "silent"]
    return [(address, answer[1] if answer[0] == "page" else None, tick) for address, answer in told]


def standing(entries):
    """What stands behind these entries: a dict from the addresses of all pages, rising, to (text, tick)."""
    last = {entry[0]: entry for entry in entries}
    return {address: last[address][1:] for address in sorted(last) if last[address][1] is not None}
