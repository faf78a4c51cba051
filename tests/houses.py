"""A plain house that reckons by going through all pages held; and worlds, deeds and questions of chance."""

from asifread.errors import AsIfError, BadCount, NoFall, NoPart, NoPrefix, NoSeat, NoShard, NotSure
from asifread.pages import links_of, parsed
from asifread.places import placed
from asifread.questions import words_asked
from asifread.questiontexts import read_question
from asifread.spelling import distance
from asifread.addresses import linked
from test_frontier import plain_picks
from test_plain import plainly_best, plainly_counted
from test_shards import PlainShard

ADDRESSES = ["a/", "a/x", "a/x/y", "b/", "b/x", "c/", "c/z", "d/", "d/e/f", "e/", "f/g"]
WORDS = "cat dog bird mouse horse fish birds cats cart hors".split()
PREFIXES = ["a", "a/", "a/x", "b/", "c", "d/e", "z", "f/g", "e/"]
ASKED = [
    "cat", "dog", "title:cat", "cat dog", "cat | dog", "-cat", "-(cat | dog)", '"black cat"', "cat~3~dog", "house:a", "house:b cat",
    "bird -cat", "hprse", "brid", "mouse | fish | horse", "dgo cat", "house:zz", " cats ", "(cart)", "caat | bordx", "-title:cat",
]
NO_QUESTION_TEXTS = ["", "cat)", "title:", "-", "|", "cat~0~dog", None, 5, ("word", "cat"), ["cat"]]


def row_of(looks):
    return tuple((address, tuple(answer)) for address, answer in looks)


class PlainHouse:
    """What a House should do and tell; where it should refuse, it raises the refusal."""

    def __init__(self, seeds, shards=2, seats=3, gap=2, lanes=2, most=24):
        self.shards = [PlainShard(seats) for _ in range(shards)]
        self.seats, self.gap, self.lanes, self.most = seats, gap, lanes, most
        self.known = {seed: None for seed in seeds}
        self.now, self.struck, self.done = 0, [], 0
        self.log = [("begun", tuple(seeds), shards, seats, gap, lanes, most)]

    def home(self, address):
        return self.shards[sum(map(ord, address.split("/")[0])) % len(self.shards)]

    def tick(self, world):
        picks = plain_picks(self.known, self.gap, self.lanes, self.now + 1)
        looks = [(address, world(address, self.now + 1)) for address in picks]
        self.now += 1
        for address, answer in looks:
            self.known[address] = self.now
            links = links_of(address, parsed(answer[1])) if answer[0] == "page" else []
            if answer[0] == "moved" and linked(address, answer[1]) not in (None, address):
                links = [linked(address, answer[1])]
            for link in links:
                if link not in self.known and len(self.known) < self.most:
                    self.known[link] = None
            if answer[0] != "silent":
                self.home(address).offer((address, answer[1] if answer[0] == "page" else None, self.now))
        self.log.append(("tick", row_of(looks)))
        return looks

    def at_seat(self, kind, shard, seat, *more, **by_name):
        if isinstance(shard, bool) or not isinstance(shard, int) or not 0 <= shard < len(self.shards):
            raise NoShard("")
        if isinstance(seat, bool) or not isinstance(seat, int) or not 0 <= seat < self.seats:
            raise NoSeat("")
        told = getattr(self.shards[shard], kind)(seat, *more, **by_name)
        if told in (NoSeat, NoPart, NoFall):
            raise told("")
        self.log.append((kind, shard, seat) + more + ((by_name.get("undone", 0),) if kind == "fall" else ()))
        return told

    def strike(self, prefix):
        if not isinstance(prefix, str) or not 1 <= len(prefix) <= 35 or prefix in self.struck:
            raise NoPrefix("")
        self.struck.append(prefix)
        self.log.append(("strike", prefix))

    def free(self, prefix):
        if prefix not in self.struck:
            raise NoPrefix("")
        self.struck.remove(prefix)
        self.log.append(("free", prefix))

    def sure(self):
        return [shard.all_told()[0] for shard in self.shards]

    def dark(self):
        found = []
        for at, (shard, sure) in enumerate(zip(self.shards, self.sure())):
            if not any(seat.up and seat.have >= sure for seat in shard.seats):
                found.append(at)
        return found

    def held(self, left_out=()):
        book = {}
        for at, (shard, sure) in enumerate(zip(self.shards, self.sure())):
            for address, text, tick in shard.log[:sure] if at not in left_out else []:
                book.pop(address, None)
                if text is not None:
                    book[address] = (text, tick)
        return {address: book[address] for address in sorted(book)}

    def ask(self, text, k=5, dark=False):
        question = read_question(text)
        if isinstance(k, bool) or not isinstance(k, int) or not 1 <= k <= 10:
            raise BadCount("")
        left_out = self.dark()
        if left_out and not dark:
            raise NotSure(left_out[0])
        held = self.held(left_out)
        book = {address: text for address, (text, tick) in held.items()}
        asked = words_asked(question)
        hits = [
            (address, worth, rows, held[address][1], placed(parsed(book[address]), asked))
            for address, worth, rows in plainly_best(book, question, k, self.struck)
        ]
        counts = dict(plainly_counted(book, self.struck)[1])
        words = {}
        for word in asked:
            near = [(distance(word, other), -many, other) for other, many in counts.items()]
            near = [one for one in near if one[0] <= (2 if len(word) >= 5 else 1)]
            if word not in counts and near:
                words[word] = min(near)[2]
        hits_row = tuple((address, worth, tuple(rows), tick, place) for address, worth, rows, tick, place in hits)
        self.log.append(("ask", text, k, dark, hits_row, tuple(words.items()), tuple(left_out)))
        return hits, words, tuple(left_out)

    def all_told(self):
        known = sorted(self.known.items())
        return (
            list(self.held().items()), self.now, list(self.struck), known, self.sure(), (self.done, self.done), list(self.log),
        )


def all_told(house):
    """All that a House tells, but for its answers."""
    return (
        list(house.held().items()), house.now(), house.struck(), list(house.known().items()), house.sure(), house.deeds(),
        house.log(),
    )


class World:
    """A world of chance, that changes with each tick; called twice with the same, it tells the same."""

    def __init__(self, chance):
        self.chance = chance
        self.told = {}

    def page(self):
        chance = self.chance
        rows = [chance.choice(["!hide", "!quiet", "!x"])] if chance.randrange(6) == 0 else []
        if chance.randrange(3) == 0:
            rows.append("# " + " ".join(chance.choices(WORDS, k=chance.randrange(1, 3))))
        body = chance.choices(WORDS + ["black", "x", "x"], k=chance.choice((0, 2, 5, 9, 20, 40)))
        body += ["[a](" + chance.choice(ADDRESSES + ["./y", "/x", "../", "no"]) + ")" for _ in range(chance.randrange(4))]
        chance.shuffle(body)
        return "\n".join(rows + [" ".join(body)])

    def answer(self):
        kind = self.chance.choice("page page page page page moved gone silent".split())
        if kind == "page":
            return (kind, self.page())
        return (kind, self.chance.choice(ADDRESSES + ["no", "./x"])) if kind == "moved" else (kind,)

    def __call__(self, address, tick):
        if (address, tick) not in self.told:
            self.told[address, tick] = self.answer()
        return self.told[address, tick]


def some_deed(chance, house, plain, world):
    """One deed of chance at both; both tell the same, or refuse alike."""
    kind = chance.choice(
        "tick tick tick tick ask ask fall rise rise late on_time on_time seal seal seal trim pour pour strike free".split()
    )
    shard, seat = chance.randrange(len(plain.shards)), chance.randrange(plain.seats)
    if chance.randrange(30) == 0:
        shard, seat = chance.choice((shard, -1, 9, None, True)), chance.choice((seat, 9, None))
    arguments, by_name = [shard, seat], {}
    if kind == "tick":
        arguments = [world]
    elif kind in ("strike", "free"):
        arguments = [chance.choice(PREFIXES)]
        if kind == "free" and plain.struck and chance.randrange(2):
            arguments = [chance.choice(plain.struck)]
    elif kind == "ask":
        arguments = [chance.choice(ASKED if chance.randrange(12) else NO_QUESTION_TEXTS)]
        by_name = {"k": chance.randrange(12), "dark": chance.choice((True, False))}
    elif kind == "pour":
        arguments.append(chance.randrange(3))
    elif kind == "fall":
        by_name = chance.choice(({}, {"undone": 0}, {"undone": 1}, {"undone": 2}, {"undone": 3}))
    plain.done += 1
    own = kind in ("tick", "strike", "free", "ask")
    try:
        wanted = getattr(plain, kind)(*arguments, **by_name) if own else plain.at_seat(kind, *arguments, **by_name)
    except AsIfError as error:
        wanted = error
    try:
        told = getattr(house, kind)(*arguments, **by_name)
    except AsIfError as error:
        told = error
    if isinstance(wanted, AsIfError) or isinstance(told, AsIfError):
        assert type(wanted) is type(told) and vars(wanted) == vars(told), (kind, arguments, by_name, wanted, told)
        return kind + " refused"
    assert told == wanted, (kind, arguments, by_name, told, wanted)
    if kind == "ask":
        assert list(told[1].items()) == list(wanted[1].items())
    return kind
