"""Questions: which things are such, the words that they ask for, and the pages that they fit."""

from asifread.addresses import house_of, is_name
from asifread.errors import BadQuestion
from asifread.kinds import is_between
from asifread.words import is_word, words_in

MOST_LEAVES = 12
MOST_DEEP = 5
FARTHEST = 9


def is_question(thing):
    """Whether the thing is a question."""
    return 1 <= leaves_of(thing, MOST_DEEP) <= MOST_LEAVES


def leaves_of(thing, deep):
    """How many words, titles, rows, nears and houses stand in a question; 0 of what is none so deep at most."""
    # The depth is counted down, so that a thing nested very deep is left early.
    if deep == 0 or not isinstance(thing, tuple) or len(thing) < 2 or not isinstance(thing[0], str):
        return 0
    if thing[0] == "not":
        return leaves_of(thing[1], deep - 1) if len(thing) == 2 else 0
    if thing[0] in ("all", "any"):
        return leaves_of_parts(thing[1], deep - 1) if len(thing) == 2 else 0
    return 1 if is_leaf(thing) else 0


def leaves_of_parts(parts, deep):
    """How many leaves stand in two to six parts; 0 where one of them is no question so deep at most."""
    if not isinstance(parts, tuple) or not 2 <= len(parts) <= 6:
        return 0
    counts = [leaves_of(part, deep) for part in parts]
    return 0 if 0 in counts else sum(counts)


def is_leaf(thing):
    """Whether a tuple of two or more, its first a text, is a question of one of the first five kinds."""
    kind = thing[0]
    if kind == "near":
        return len(thing) == 4 and is_between(thing[1], 1, FARTHEST) and is_word(thing[2]) and is_word(thing[3])
    if len(thing) != 2:
        return False
    told = thing[1]
    if kind == "row":
        return isinstance(told, tuple) and 2 <= len(told) <= 4 and all([is_word(word) for word in told])
    if kind == "house":
        return is_name(told)
    return kind in ("word", "title") and is_word(told)


def check_question(thing):
    """Refuse what is no question."""
    if not is_question(thing):
        raise BadQuestion("no question")


def words_asked(question):
    """The list of the question's unlike words that stand beneath no not, as they come."""
    check_question(question)
    found = []
    for word in words_beneath(question):
        if word not in found:
            found.append(word)
    return found


def words_beneath(question):
    """The question's words that stand beneath no not, as they come, like ones too."""
    kind = question[0]
    if kind in ("word", "title"):
        return [question[1]]
    if kind == "row":
        return list(question[1])
    if kind == "near":
        return [question[2], question[3]]
    if kind in ("all", "any"):
        return [word for part in question[1] for word in words_beneath(part)]
    return []


def fits(address, page, question):
    """Whether the question fits the page at the address, be it hidden or not."""
    house = house_of(address)
    check_question(question)
    return fits_words(house, words_in(page.title), words_in(page.body), question)


def fits_words(house, title, body, question):
    """Whether the question fits a page of that house with these words in title and body."""
    kind = question[0]
    if kind == "not":
        return not fits_words(house, title, body, question[1])
    if kind == "all":
        return all([fits_words(house, title, body, part) for part in question[1]])
    if kind == "any":
        return any([fits_words(house, title, body, part) for part in question[1]])
    if kind == "house":
        return house == question[1]
    if kind == "near":
        return stand_near(body, question[1], question[2], question[3])
    if kind == "row":
        return stand_in_row(title, question[1]) or stand_in_row(body, question[1])
    return question[1] in title or kind == "word" and question[1] in body


def stand_in_row(words, row):
    """Whether the words of the row stand one straight behind the other among these words."""
    wanted = list(row)
    return any([words[at:at + len(wanted)] == wanted for at in range(len(words))])


def stand_near(words, many, one, other):
    """Whether one and the other stand at two places that are 1 to so many apart, either one first."""
    for at, word in enumerate(words):
        if word == one and (other in words[max(0, at - many):at] or other in words[at + 1:at + many + 1]):
            return True
    return False
