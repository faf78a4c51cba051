"""Texts cut into words."""

from asifread.kinds import LETTERS_AND_FIGURES, SMALL, made_of

LONGEST_WORD = 12
SHORTEST_CUT = 4


def root(text):
    """The root of a text of letters and figures: small letters, a single `s` at the end of a longer one cut."""
    small = text.lower()
    if len(small) >= SHORTEST_CUT and small[-1] == "s" and small[-2] != "s":
        return small[:-1]
    return small


def is_word(thing):
    """Whether the thing is a word: 1 to 12 small letters and figures that are their own root."""
    if not isinstance(thing, str) or not 1 <= len(thing) <= LONGEST_WORD:
        return False
    return made_of(thing, SMALL) and root(thing) == thing


def tokens(text):
    """The list of (word, first, end) of the longest runs of letters and figures in the text."""
    found = []
    first = 0
    for at, sign in enumerate(text):
        if sign not in LETTERS_AND_FIGURES:
            if first < at:
                found.append(token(text, first, at))
            first = at + 1
    if first < len(text):
        found.append(token(text, first, len(text)))
    return found


def token(text, first, end):
    """The token of the run between these places."""
    return root(text[first:end][:LONGEST_WORD]), first, end


def words_in(text):
    """The words of the text's tokens, as they come."""
    return [row[0] for row in tokens(text)]
