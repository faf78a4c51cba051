"""The house: looks at pages again and again, keeps them in Shards, and is asked."""

from asifread.addresses import house_of
from asifread.crawling import entries_of, looked_all, standing
from asifread.errors import NoPrefix, NoShard, NotSure
from asifread.frontier import Frontier
from asifread.kinds import check_count, is_between, tupled
from asifread.places import placed
from asifread.plain import check_asked, is_prefix, joined, ranked
from asifread.questions import words_asked
from asifread.questiontexts import read_question
from asifread.seeking import sought
from asifread.shards import Shard
from asifread.spelling import nearest_of_each

MOST_SHARDS = 4


def home(address, shards):
    """The number of the Shard, of so many, that keeps what is told of the address."""
    return sum([ord(sign) for sign in house_of(address)]) % shards


class Tally:
    """How many deeds were begun, and how many ended, refused or not."""

    def __init__(self):
        self.begun = 0
        self.ended = 0

    def __enter__(self):
        self.begun += 1

    def __exit__(self, *told):
        self.ended += 1


class House:
    """A Frontier, the Shards, and a log of all that was done."""

    def __init__(self, seeds, *, shards=2, seats=3, gap=2, lanes=2, most=24):
        check_count(shards, 1, MOST_SHARDS)
        self.shards = [Shard(seats) for _ in range(shards)]
        self.frontier = Frontier(seeds, gap=gap, lanes=lanes, most=most)
        self.ticks = 0
        self.prefixes = []
        self.tally = Tally()
        self.rows = [("begun", tuple(seeds), shards, seats, gap, lanes, most)]

    def tick(self, world):
        """Look at all that is to be looked at at the next tick; tell the list of (address, answer)."""
        with self.tally:
            looks = looked_all(self.frontier, world, self.ticks + 1)
            self.ticks += 1
            for entry in entries_of(self.ticks, looks):
                shard = self.shards[home(entry[0], len(self.shards))]
                shard.offer(entry)
            self.rows.append(("tick", tupled(looks)))
            return looks

    def fall(self, shard, seat, *, undone=0):
        """The seat is up no more."""
        with self.tally:
            here = self.shard_at(shard)
            here.fall(seat, undone=undone)
            self.rows.append(("fall", shard, seat, undone))

    def rise(self, shard, seat):
        """The seat is up again."""
        with self.tally:
            here = self.shard_at(shard)
            here.rise(seat)
            self.rows.append(("rise", shard, seat))

    def late(self, shard, seat):
        """The seat is on time no more."""
        with self.tally:
            here = self.shard_at(shard)
            here.late(seat)
            self.rows.append(("late", shard, seat))

    def on_time(self, shard, seat):
        """The seat is on time again."""
        with self.tally:
            here = self.shard_at(shard)
            here.on_time(seat)
            self.rows.append(("on_time", shard, seat))

    def seal(self, shard, seat):
        """Seal the seat's Shelf; tell how many entries that were."""
        with self.tally:
            here = self.shard_at(shard)
            many = here.seal(seat)
            self.rows.append(("seal", shard, seat))
            return many

    def trim(self, shard, seat):
        """Trim the seat's Shelf."""
        with self.tally:
            here = self.shard_at(shard)
            here.trim(seat)
            self.rows.append(("trim", shard, seat))

    def pour(self, shard, seat, at):
        """Pour two parts of the seat's Shelf together."""
        with self.tally:
            here = self.shard_at(shard)
            here.pour(seat, at)
            self.rows.append(("pour", shard, seat, at))

    def strike(self, prefix):
        """No page whose address begins so is shown from now on."""
        with self.tally:
            if not is_prefix(prefix) or prefix in self.prefixes:
                raise NoPrefix("no prefix, or struck already")
            self.prefixes.append(prefix)
            self.rows.append(("strike", prefix))

    def free(self, prefix):
        """The prefix is struck no more."""
        with self.tally:
            if not isinstance(prefix, str) or prefix not in self.prefixes:
                raise NoPrefix("not struck")
            self.prefixes.remove(prefix)
            self.rows.append(("free", prefix))

    def ask(self, text, *, k=5, dark=False):
        """The best hits, the nearest words of those asked that stand nowhere, and the Shards left out."""
        with self.tally:
            question = read_question(text)
            check_asked(question, k)
            views, left_out = self.views()
            if left_out and not dark:
                raise NotSure(left_out[0])
            counts = joined([view.counts() for view in views])
            hits = hits_of(views, question, counts, k)
            words = nearest_of_each(counts.words, words_asked(question))
            self.rows.append(("ask", text, k, dark, tupled(hits), tupled(words), left_out))
            return hits, words, left_out

    def held(self):
        """The addresses of all pages that are surely held, rising, each with (text, tick)."""
        return standing([entry for shard in self.shards for entry in shard.log()[:shard.sure()]])

    def now(self):
        """The number of the last tick, at first 0."""
        return self.ticks

    def struck(self):
        """The list of the struck prefixes, as struck."""
        return list(self.prefixes)

    def known(self):
        """The known addresses, rising, each with the tick of its last look, or None."""
        return self.frontier.known()

    def sure(self):
        """The list of how many entries each Shard surely holds."""
        return [shard.sure() for shard in self.shards]

    def deeds(self):
        """How many deeds were begun, and how many ended."""
        return self.tally.begun, self.tally.ended

    def log(self):
        """The list of rows of what the House began with, and of each deed that wasn't refused."""
        return list(self.rows)

    def shard_at(self, shard):
        """The Shard of that number."""
        if not is_between(shard, 0, len(self.shards) - 1):
            raise NoShard("no such shard")
        return self.shards[shard]

    def views(self):
        """The list of the Views of those Shards that have one; and the rising tuple of the other Shards."""
        found = []
        others = []
        for at, shard in enumerate(self.shards):
            try:
                found.append(shard.view(struck=self.prefixes))
            except NotSure:
                others.append(at)
        return found, tuple(others)


def hits_of(views, question, counts, k):
    """The k best hits of all these Views, each with its tick and its best place."""
    words = words_asked(question)
    found = []
    for view in views:
        book = view.book()
        hits, _ = sought(view, question, counts, k)
        for address, worth, rows in hits:
            found.append((address, worth, rows, book[address][1], placed(view.page(address), words)))
    return ranked(found)[:k]
