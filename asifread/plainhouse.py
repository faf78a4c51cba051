"""What a House tells, reckoned plainly: all entries are kept, and each question goes through all pages held."""

from asifread.crawling import entries_of, looked_all, standing
from asifread.errors import NoFall, NoPart, NoPrefix, NoSeat, NoShard, NotSure
from asifread.frontier import Frontier
from asifread.house import MOST_SHARDS, home
from asifread.kinds import check_count, is_between, is_number
from asifread.pages import parsed
from asifread.places import placed
from asifread.plain import best, counted, is_prefix
from asifread.questions import words_asked
from asifread.questiontexts import read_question
from asifread.shards import MOST_SEATS
from asifread.spelling import nearest_of_each


class PlainShard:
    """A log of entries; of each seat how many it has, whether it is up, and whether it is on time."""

    def __init__(self, seats):
        self.entries = []
        self.have = [0] * seats
        self.up = [True] * seats
        self.prompt = [True] * seats

    def take(self, entry):
        """The entry is the log's next."""
        self.entries.append(entry)
        self.supply()

    def supply(self):
        """Each seat that is up and on time has all."""
        for seat in range(len(self.have)):
            if self.up[seat] and self.prompt[seat]:
                self.have[seat] = len(self.entries)

    def turn(self, states, seat, state):
        """The seat's state is this one from now on; refused where it is so already."""
        if not is_between(seat, 0, len(states) - 1) or states[seat] == state:
            raise NoSeat("no such seat, or it is so already")
        states[seat] = state
        self.supply()

    def check_up(self, seat):
        """Refuse what is no seat that is up."""
        if not is_between(seat, 0, len(self.up) - 1) or not self.up[seat]:
            raise NoSeat("no such seat, or it is not up")

    def surely(self):
        """The list of the entries that more than half of the seats have."""
        many = len(self.entries)
        while 2 * len([have for have in self.have if have >= many]) <= len(self.have):
            many -= 1
        return self.entries[:many]

    def is_dark(self):
        """Whether no seat that is up has all that is surely held."""
        many = len(self.surely())
        return not any([up and have >= many for up, have in zip(self.up, self.have)])


class PlainHouse:
    """Is done to as a House is, and tells the same; of seals, pours and trims it knows only who can do them."""

    def __init__(self, seeds, *, shards, seats, gap, lanes, most):
        check_count(shards, 1, MOST_SHARDS)
        check_count(seats, 1, MOST_SEATS)
        self.frontier = Frontier(seeds, gap=gap, lanes=lanes, most=most)
        self.shards = [PlainShard(seats) for _ in range(shards)]
        self.ticks = 0
        self.prefixes = []

    def tick(self, world):
        """Look at all that is to be looked at at the next tick; tell the list of (address, answer)."""
        self.ticks += 1
        looks = looked_all(self.frontier, world, self.ticks)
        for entry in entries_of(self.ticks, looks):
            shard = self.shards[home(entry[0], len(self.shards))]
            shard.take(entry)
        return looks

    def fall(self, shard, seat, *, undone):
        """The seat is up no more; how many entries it has stays so, whatever was undone."""
        here = self.shard_at(shard)
        if not is_between(undone, 0, 2):
            raise NoFall("it cannot fall so")
        here.turn(here.up, seat, False)

    def rise(self, shard, seat):
        """The seat is up again."""
        here = self.shard_at(shard)
        here.turn(here.up, seat, True)

    def late(self, shard, seat):
        """The seat is on time no more."""
        here = self.shard_at(shard)
        here.turn(here.prompt, seat, False)

    def on_time(self, shard, seat):
        """The seat is on time again."""
        here = self.shard_at(shard)
        here.turn(here.prompt, seat, True)

    def seal(self, shard, seat):
        """Nothing that is told changes."""
        here = self.shard_at(shard)
        here.check_up(seat)

    def trim(self, shard, seat):
        """Nothing that is told changes."""
        here = self.shard_at(shard)
        here.check_up(seat)

    def pour(self, shard, seat, at):
        """Nothing that is told changes; whether there are parts at that place isn't known here."""
        here = self.shard_at(shard)
        here.check_up(seat)
        if not is_number(at) or at < 0:
            raise NoPart("no number from 0 on")

    def strike(self, prefix):
        """No page whose address begins so is shown from now on."""
        if not is_prefix(prefix) or prefix in self.prefixes:
            raise NoPrefix("no prefix, or struck already")
        self.prefixes.append(prefix)

    def free(self, prefix):
        """The prefix is struck no more."""
        if not isinstance(prefix, str) or prefix not in self.prefixes:
            raise NoPrefix("not struck")
        self.prefixes.remove(prefix)

    def ask(self, text, *, k, dark):
        """The best hits, the nearest words of those asked that stand nowhere, and the Shards left out."""
        question = read_question(text)
        left_out = [at for at, shard in enumerate(self.shards) if shard.is_dark()]
        if left_out and not dark:
            raise NotSure(left_out[0])
        held = standing([entry for shard in self.shards if not shard.is_dark() for entry in shard.surely()])
        book = {address: held[address][0] for address in held}
        words = words_asked(question)
        hits = []
        for address, worth, rows in best(book, question, k, struck=self.prefixes):
            text_held, tick = held[address]
            hits.append((address, worth, rows, tick, placed(parsed(text_held), words)))
        counts = counted(book, struck=self.prefixes)
        return hits, nearest_of_each(counts.words, words), tuple(left_out)

    def shard_at(self, shard):
        """The PlainShard of that number."""
        if not is_between(shard, 0, len(self.shards) - 1):
            raise NoShard("no such shard")
        return self.shards[shard]
