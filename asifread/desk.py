"""The desk: a world and a house, worked by rows of text."""

from asifread.addresses import is_address
from asifread.deeds import do
from asifread.errors import AsIfError, NoText
from asifread.house import House
from asifread.judge import judged
from asifread.kinds import made_of
from asifread.things import FIGURES, read_thing, thing_text

OK = "ok"
NONE = "none"
NO_ROW = "no row"
NO_HOUSE = "no house"
GONE = ("gone",)
# For each row the kinds of what stands behind its word. TEXT, QUESTION and ADDRESSES are all the rest.
FORMS = {
    "page": "ADDRESS TEXT", "moved": "ADDRESS WORD", "gone": "ADDRESS", "silent": "ADDRESS", "begin": "N N ADDRESSES",
    "tick": "N", "ask": "N QUESTION", "held": "", "sure": "", "check": "", "fall": "N N", "rise": "N N", "late": "N N",
    "prompt": "N N", "seal": "N N", "trim": "N N", "pour": "N N N", "strike": "WORD", "free": "WORD",
}


def address_read(piece):
    """The address, or None."""
    return piece if is_address(piece) else None


def addresses_read(piece):
    """The list of one address or more, or None."""
    addresses = piece.split(" ")
    return addresses if all([is_address(address) for address in addresses]) else None


def number_read(piece):
    """The number of one to three figures, or None."""
    if not 1 <= len(piece) <= 3 or not made_of(piece, FIGURES):
        return None
    return None if len(piece) > 1 and piece.startswith("0") else int(piece)


def word_read(piece):
    """The word, or None."""
    return piece if piece != "" and " " not in piece else None


def text_read(piece):
    """The text that is written as a thing, or None."""
    try:
        thing = read_thing(piece)
    except NoText:
        return None
    return thing if isinstance(thing, str) else None


def question_read(piece):
    """Whatever it is."""
    return piece


READERS = {
    "ADDRESS": address_read, "ADDRESSES": addresses_read, "N": number_read, "WORD": word_read, "TEXT": text_read,
    "QUESTION": question_read,
}


def row_read(row):
    """The row's word and the things behind it, as one tuple; None of no such row."""
    if not isinstance(row, str):
        return None
    word = row.partition(" ")[0]
    if word not in FORMS:
        return None
    kinds = FORMS[word].split()
    pieces = row.split(" ", len(kinds))
    if pieces[0] != word or len(pieces) != len(kinds) + 1:
        return None
    things = [piece_read(kind, piece) for kind, piece in zip(kinds, pieces[1:])]
    return None if None in things else (word, *things)


def piece_read(kind, piece):
    """What the piece of the row tells, or None where it is none of that kind."""
    reader = READERS[kind]
    return reader(piece)


def ticks_told(desk, many):
    """So many ticks: how many looks there were."""
    answers = desk.answers
    house = desk.house

    def world(address, tick):
        return answers.get(address, GONE)

    looks = 0
    for _ in range(many):
        looks += len(house.tick(world))
    return str(looks)


def ask_told(desk, k, text):
    """The answer to a question."""
    house = desk.house
    hits, words, left_out = house.ask(text, k=k, dark=True)
    told = [f"{address} {worth} {tick} {thing_text(place[0])}" for address, worth, _, tick, place in hits]
    rest = [f" | {word} {other}" for word, other in words.items()]
    rest.extend([f" | left out {shard}" for shard in left_out])
    return listed(told, "; ") + "".join(rest)


def held_told(desk):
    """The addresses of all pages that are surely held."""
    house = desk.house
    return listed(list(house.held()), " ")


def sure_told(desk):
    """How many entries each Shard surely holds."""
    house = desk.house
    return listed([str(many) for many in house.sure()], " ")


def check_told(desk):
    """What the judge tells of the log."""
    house = desk.house
    return thing_text(judged(house.log()))


def listed(texts, between):
    """The texts in one, or `none` where there is none."""
    return between.join(texts) if texts else NONE


TELLERS = {"tick": ticks_told, "ask": ask_told, "held": held_told, "sure": sure_told, "check": check_told}


class Desk:
    """What was told last of each address, and the House, if one was begun."""

    def __init__(self):
        self.answers = {}
        self.house = None

    def answer(self, row):
        """Do what the row tells; tell its answer."""
        told = row_read(row)
        if told is None:
            return NO_ROW
        try:
            return self.work(told[0], told[1:])
        except AsIfError as error:
            return "refused " + error.__class__.__name__

    def work(self, word, things):
        """Do what a row of this word and these things tells; tell its answer."""
        if word in ("page", "moved", "gone", "silent"):
            self.answers[things[0]] = (word,) + things[1:]
            return OK
        if word == "begin":
            shards, seats, seeds = things
            self.house = House(seeds, shards=shards, seats=seats)
            return OK
        if self.house is None:
            return NO_HOUSE
        if word in TELLERS:
            teller = TELLERS[word]
            return teller(self, *things)
        do(self.house, deed_row(word, things))
        return OK


def deed_row(word, things):
    """The row of a log that tells the deed of this word."""
    if word == "prompt":
        return ("on_time",) + things
    return (word,) + things + ((0,) if word == "fall" else ())
