"""The best place of a page: the few tokens of its body that show best why it was found."""

from asifread.kinds import is_just
from asifread.words import tokens

WIDEST = 8
LEFT_OUT = ".."


def placed(page, words):
    """The text of the body's best window, and the places in it of the tokens that are of words."""
    told = tokens(page.body)
    if len(told) == 0:
        return "", ()
    begin, end = best_window([row[0] for row in told], words)
    first, behind = told[begin][1], told[end - 1][2]
    ahead = LEFT_OUT if begin > 0 else ""
    rest = LEFT_OUT if end < len(told) else ""
    text = ahead + page.body[first:behind].replace("\n", " ") + rest
    shift = len(ahead) - first
    places = [(row[1] + shift, row[2] + shift) for row in told[begin:end] if row[0] in words]
    return text, tuple(places)


def best_window(told, words):
    """From which of the told words to ahead of which the best window reaches."""
    # A window that begins with another word is never the best one: without that word it has fewer.
    begins = [at for at, word in enumerate(told) if word in words]
    if len(begins) == 0:
        return 0, min(WIDEST, len(told))
    windows = [(begin, end) for begin in begins for end in range(begin + 1, min(begin + WIDEST, len(told)) + 1)]
    return min(windows, key=lambda window: rank(told[window[0]:window[1]], words) + window)


def rank(window, words):
    """The lesser, the better the window is: unlike words, then such tokens, then how few tokens."""
    found = [word for word in window if word in words]
    return -len(set(found)), -len(found), len(window)


def stands(page, words, told):
    """Whether the thing told is just what placed tells."""
    return is_just(told, placed(page, words))
