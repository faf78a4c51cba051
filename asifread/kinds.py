"""Small helpers about signs that several files of the package share."""

SMALL = "abcdefghijklmnopqrstuvwxyz0123456789"


def made_of(text, signs):
    """Whether the text has no other signs than these."""
    return all([sign in signs for sign in text])


def run_end(text, at, barred):
    """The first place from `at` on where a barred sign stands, or the text's end."""
    while at < len(text) and text[at] not in barred:
        at += 1
    return at
