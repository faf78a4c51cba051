"""Small helpers about signs and numbers that several files of the package share."""

SMALL = "abcdefghijklmnopqrstuvwxyz0123456789"
LETTERS_AND_FIGURES = "abcdefghijklmnopqrstuvwxyzABCDEFGHIJKLMNOPQRSTUVWXYZ0123456789"


def made_of(text, signs):
    """Whether the text has no other signs than these."""
    return all([sign in signs for sign in text])


def run_end(text, at, barred):
    """The first place from `at` on where a barred sign stands, or the text's end."""
    while at < len(text) and text[at] not in barred:
        at += 1
    return at


def is_between(thing, least, most):
    """Whether the thing is a number from least to most."""
    # Truths are integers to Python, but no numbers to the document.
    return isinstance(thing, int) and not isinstance(thing, bool) and least <= thing <= most
