"""Small helpers about signs, numbers and lists that several files of the package share."""

from asifread.errors import BadCount

SMALL = "abcdefghijklmnopqrstuvwxyz0123456789"
LETTERS_AND_FIGURES = "abcdefghijklmnopqrstuvwxyzABCDEFGHIJKLMNOPQRSTUVWXYZ0123456789"
# All signs that may stand in a page's text; the percent sign is none of them.
TEXT_SIGNS = "\n !\"#$&'()*+,-./0123456789:;<=>?@ABCDEFGHIJKLMNOPQRSTUVWXYZ[\\]^_`abcdefghijklmnopqrstuvwxyz{|}~"


def made_of(text, signs):
    """Whether the text has no other signs than these."""
    return all([sign in signs for sign in text])


def run_end(text, at, barred):
    """The first place from `at` on where a barred sign stands, or the text's end."""
    while at < len(text) and text[at] not in barred:
        at += 1
    return at


def is_number(thing):
    """Whether the thing is a number."""
    # Truths are integers to Python, but no numbers to the document.
    return isinstance(thing, int) and not isinstance(thing, bool)


def is_between(thing, least, most):
    """Whether the thing is a number from least to most."""
    return is_number(thing) and least <= thing <= most


def check_count(thing, least, most):
    """Refuse what is no number from least to most."""
    if not is_between(thing, least, most):
        raise BadCount(f"no count from {least} to {most}")


def is_list(thing):
    """Whether the thing is a list, or a tuple, which may stand for one."""
    return isinstance(thing, (list, tuple))


def is_just(thing, wanted):
    """Whether the thing is what is wanted, made of texts, numbers, tuples and lists; tuples may stand for the lists."""
    if isinstance(wanted, str):
        return isinstance(thing, str) and thing == wanted
    if isinstance(wanted, int):
        return is_number(thing) and thing == wanted
    if not isinstance(thing, tuple) and not (isinstance(wanted, list) and isinstance(thing, list)):
        return False
    # Only what is wanted is gone through, so that a thing nested very deep is left early.
    return len(thing) == len(wanted) and all([is_just(part, other) for part, other in zip(thing, wanted)])


def tupled(thing):
    """The thing with tuples in the place of lists, and tuples of pairs in the place of dicts, within it, too."""
    if isinstance(thing, dict):
        return tuple([(key, tupled(thing[key])) for key in thing])
    if is_list(thing):
        return tuple([tupled(part) for part in thing])
    return thing
