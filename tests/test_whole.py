"""Points [1] and [2] over the whole program, and what [3] says of things of any kind."""

import random
import unittest

from asifread.addresses import house_of, is_address, is_name, linked
from asifread.coding import Taker
from asifread.desk import Desk
from asifread.disk import Disk
from asifread.errors import AsIfError
from asifread.frontier import Frontier
from asifread.house import House, home
from asifread.judge import again, judged
from asifread.logtexts import log_text, read_log
from asifread.pages import links_of, parsed
from asifread.parts import Part, part_of
from asifread.places import stands
from asifread.plain import best, weight, why
from asifread.questions import fits, is_question, words_asked
from asifread.questiontexts import question_text, read_question
from asifread.seeking import bound, fair, sought
from asifread.shards import Shard
from asifread.shelves import Shelf
from asifread.spelling import edited
from asifread.things import read_thing
from asifread.words import is_word
from houses import ADDRESSES, ASKED, PlainHouse, World, all_told, some_deed
from others import DEEP, NO_TEXTS, Strange
from test_things import same


class WholeTest(unittest.TestCase):
    def look(self, house, plain):
        """Both tell the same of everything; the log is so, and leads to the same again."""
        for at, text in enumerate(ASKED):
            k = (1, 3, 10)[at % 3]
            wanted = plain.ask(text, k=k, dark=True)
            hits, words, left_out = house.ask(text, k=k, dark=True)
            self.assertEqual((hits, list(words.items()), left_out), (wanted[0], list(wanted[1].items()), wanted[2]))
            plain.done += 1
            asked = words_asked(read_question(text))
            for address, worth, rows, tick, place in hits:
                page = parsed(house.held()[address][0])
                self.assertEqual((worth, tick), (sum(map(weight, rows)), house.held()[address][1]))
                self.assertTrue(stands(page, asked, place))
                inner = place[0].removeprefix("..").removesuffix("..")
                self.assertIn(inner, page.body.replace("\n", " "))
        self.assertEqual(all_told(house), plain.all_told())
        log = house.log()
        self.assertIsNone(judged(log))
        told = read_log(log_text(log))
        self.assertTrue(same(tuple(told), tuple(log)))
        other = again(told)
        self.assertEqual(all_told(other)[:5] + all_told(other)[6:], all_told(house)[:5] + all_told(house)[6:])
        return other

    def test_houses_of_all_sizes(self):
        chance = random.Random(161)
        for shards in range(1, 5):
            for seats in range(1, 6):
                numbers = {"gap": chance.randrange(1, 4), "lanes": chance.randrange(1, 6), "most": chance.randrange(5, 25)}
                seeds = chance.sample(ADDRESSES, chance.randrange(1, 5))
                house = House(seeds, shards=shards, seats=seats, **numbers)
                plain, world = PlainHouse(seeds, shards, seats, **numbers), World(chance)
                for _ in range(60):
                    some_deed(chance, house, plain, world)
                house = self.look(house, plain)
                plain.done = house.deeds()[0]
                # The one that was led through the log goes on.
                for _ in range(25):
                    some_deed(chance, house, plain, world)
                self.assertEqual(all_told(house), plain.all_told())

    def test_the_best_of_all_that_is_held(self):
        chance = random.Random(162)
        for _ in range(15):
            house = House(ADDRESSES[:3], shards=chance.randrange(1, 5), seats=chance.randrange(1, 6), gap=1, lanes=4)
            world = World(chance)
            for _ in range(12):
                house.tick(world)
                for text in chance.sample(ASKED, 4):
                    book = {address: page for address, (page, tick) in house.held().items()}
                    question = read_question(text)
                    wanted = best(book, question, 5, struck=house.struck())
                    self.assertEqual([hit[:3] for hit in house.ask(text)[0]], wanted)
                    self.assertEqual([hit[:3] for hit in house.ask(question_text(question))[0]], wanted)

    def test_the_same_answers_whatever_the_seats_do(self):
        chance = random.Random(163)
        for _ in range(5):
            world = World(chance)
            one = House(ADDRESSES[:3], shards=2, seats=5, gap=1, lanes=3)
            other = House(ADDRESSES[:3], shards=2, seats=1, gap=1, lanes=3)
            for turn in range(15):
                # Two of five seats at most are lost or late, so that all is surely held at once.
                weak = [(shard, seat) for shard in range(2) for seat in chance.sample(range(5), 2)]
                undo = []
                for shard, seat in weak:
                    if chance.randrange(2):
                        one.late(shard, seat)
                        undo.append((one.on_time, shard, seat))
                    else:
                        try:
                            one.seal(shard, seat)
                            one.fall(shard, seat, undone=chance.randrange(3))
                        except AsIfError:
                            one.fall(shard, seat)
                        undo.append((one.rise, shard, seat))
                self.assertEqual(one.tick(world), other.tick(world))
                for text in ASKED:
                    self.assertEqual(one.ask(text), other.ask(text))
                for deed, shard, seat in undo:
                    deed(shard, seat)
                for shard in range(2):
                    for seat in range(5):
                        for deed in chance.sample((one.seal, one.trim, one.seal), 2):
                            deed(shard, seat)
                        try:
                            one.pour(shard, seat, chance.randrange(3))
                        except AsIfError:
                            pass
                self.assertEqual((one.held(), one.sure()), (other.held(), other.sure()))
            self.assertIsNone(judged(one.log()))


class AnythingTest(unittest.TestCase):
    """Where a refusal of anything is told, or anything may be asked about, things nested very deep do no harm."""

    def test_asked_about(self):
        page, view = parsed("cat"), Shelf(Disk()).view(0)
        counts = view.counts()
        for thing in NO_TEXTS + DEEP + [Strange(), (Strange(),) * 2]:
            for asked in [
                is_name, is_address, is_word, is_question, lambda thing: stands(page, ["cat"], thing),
                lambda thing: fair(view, ("word", "cat"), counts, 1, thing) and thing != ([], {}),
                lambda thing: edited("cat", thing) if thing not in ([], ()) else None, view.page,
                lambda thing: view.found(thing) or None,
            ]:
                self.assertIn(asked(thing), (False, None))
            self.assertEqual(judged(thing), 0)
            self.assertEqual(judged([("begun", ("a/",), 1, 1, 1, 1, 1), thing]), 1)
            self.assertEqual(Desk().answer(thing), "no row")

    def test_refused(self):
        page, view, question = parsed("cat"), Shelf(Disk()).view(0), ("word", "cat")
        counts, shelf, shard, house = view.counts(), Shelf(Disk()), Shard(), House(["a/"])
        part, frontier, disk = Part(0, [("a/", "cat", 1)]), Frontier(["a/"]), Disk()
        deeds = [
            house_of, lambda thing: linked(thing, "./"), lambda thing: links_of(thing, page), lambda thing: home(thing, 1),
            words_asked, question_text, read_question, lambda thing: fits("a/", page, thing), lambda thing: fits(thing, page, question),
            lambda thing: best({}, thing, 1), lambda thing: best({}, question, thing), lambda thing: why(thing, page, [], counts),
            lambda thing: sought(view, thing, counts, 1), lambda thing: sought(view, question, counts, thing),
            lambda thing: fair(view, thing, counts, 1, ([], {})), lambda thing: bound([], counts, thing, {}),
            part_of, part.entry, part.numbers, lambda thing: disk.cut(thing), shelf.give, lambda thing: shelf.give([thing]), shelf.pour,
            shelf.trim, shelf.view, Shard, shard.offer, shard.fall, shard.rise, shard.late, shard.on_time, shard.seal, shard.trim,
            lambda thing: shard.pour(thing, 0), lambda thing: shard.pour(0, thing), lambda thing: shard.fall(0, undone=thing),
            lambda thing: Frontier(thing), lambda thing: Frontier([thing]), lambda thing: Frontier(["a/"], gap=thing),
            lambda thing: frontier.looked(thing, 1, []), lambda thing: frontier.looked("a/", 1, [thing]), lambda thing: House(thing),
            lambda thing: House(["a/"], shards=thing), lambda thing: House(["a/"], seats=thing), lambda thing: house.fall(thing, 0),
            lambda thing: house.fall(0, thing), lambda thing: house.pour(0, 0, thing), house.strike, house.free, house.ask,
            lambda thing: house.ask("cat", k=thing), again, lambda thing: again([("begun", ("a/",), 1, 1, 1, 1, 1), thing]),
            read_thing, read_log,
        ]
        things = [thing for thing in NO_TEXTS + DEEP if not isinstance(thing, int) or isinstance(thing, bool)]
        things = [thing for thing in things if thing not in (("a/",), ["a/"])] + [Strange(), ("a", Strange())]
        before = all_told(house)[:5] + all_told(house)[6:], shard.moments(), shelf.moment(), frontier.known()
        for at, deed in enumerate(deeds):
            for thing in things:
                with self.subTest(at=at), self.assertRaises(AsIfError):
                    deed(thing)
        after = all_told(house)[:5] + all_told(house)[6:], shard.moments(), shelf.moment(), frontier.known()
        self.assertEqual(after, before)
        self.assertEqual(Taker([]).at_end(), True)
