"""Pages: what their texts tell, and to which addresses they lead."""

from asifread.addresses import check_address, linked
from asifread.kinds import run_end


class Page:
    """What a page's text tells."""

    def __init__(self, hidden, quiet, title, body, links):
        self.hidden = hidden
        self.quiet = quiet
        self.title = title
        self.body = body
        self.links = links


def parsed(text):
    """The Page that the text tells."""
    rows = text.split("\n")
    others = [row for row in rows if not row.startswith("!")]
    title = ""
    if others and others[0].startswith("# "):
        title = others[0][2:]
        others = others[1:]
    body, links = unlinked("\n".join(others))
    return Page("!hide" in rows, "!quiet" in rows, title, body, links)


def unlinked(text):
    """The text with each link exchanged for its words, and the tuple of the links."""
    pieces = []
    links = []
    at = 0
    while at < len(text):
        found = link_at(text, at)
        if found is None:
            pieces.append(text[at])
            at += 1
        else:
            words, link, at = found
            pieces.append(words)
            links.append(link)
    return "".join(pieces), tuple(links)


def link_at(text, at):
    """The words, the link and the place behind it of a `[words](link)` at this place, or None."""
    if text[at] != "[":
        return None
    middle = run_end(text, at + 1, "[]\n")
    if text[middle:middle + 2] != "](":
        return None
    end = run_end(text, middle + 2, " \n[]()")
    if end == middle + 2 or text[end:end + 1] != ")":
        return None
    return text[at + 1:middle], text[middle + 2:end], end + 1


def links_of(address, page):
    """The rising list of the other addresses to which the page's links lead."""
    check_address(address)
    if page.quiet:
        return []
    led = [linked(address, link) for link in page.links]
    return sorted({found for found in led if found is not None and found != address})
