"""The interface: names, arguments, and the files in which they are defined; and what of point [3] holds for all."""

import importlib
import inspect
import unittest

FUNCTIONS = {
    "addresses": {
        "is_name": "(thing)", "is_address": "(thing)", "house_of": "(address)", "linked": "(address, link)",
    },
    "pages": {"parsed": "(text)", "links_of": "(address, page)"},
    "words": {"tokens": "(text)", "root": "(text)", "is_word": "(thing)"},
    "questions": {
        "is_question": "(thing)", "words_asked": "(question)", "fits": "(address, page, question)",
    },
    "questiontexts": {"question_text": "(question)", "read_question": "(text)"},
    "plain": {
        "counted": "(book, *, struck=())", "joined": "(some)", "why": "(address, page, words, counts)",
        "weight": "(row)", "best": "(book, question, k, *, struck=())",
    },
    "places": {"placed": "(page, words)", "stands": "(page, words, told)"},
    "spelling": {
        "edited": "(word, edits)", "distance": "(one, other)", "edits_between": "(one, other)", "nearest": "(words, word)",
    },
    "coding": {"number_row": "(n)", "text_row": "(text)"},
    "parts": {"part_of": "(row)", "poured": "(one, other, floor)"},
    "seeking": {
        "sought": "(view, question, counts, k)", "bound": "(words, counts, address, found)",
        "fair": "(view, question, counts, k, told)",
    },
    "crawling": {"looked_all": "(frontier, world, tick)", "entries_of": "(tick, looks)"},
    "house": {"home": "(address, shards)"},
    "judge": {"judged": "(log)", "again": "(log)"},
    "things": {"thing_text": "(thing)", "read_thing": "(text)"},
    "logtexts": {"log_text": "(log)", "read_log": "(text)"},
}
# For each class its methods; of those that no caller makes, none is told.
CLASSES = {
    "pages": {"Page": {}},
    "plain": {"Counts": {}},
    "coding": {
        "Taker": {"__init__": "(self, row)", "take_number": "(self)", "take_text": "(self)", "at_end": "(self)"},
    },
    "parts": {
        "Part": {
            "__init__": "(self, first, entries)", "__eq__": "(self, other)", "entry": "(self, number)",
            "numbers": "(self, address)", "all_words": "(self)", "postings": "(self, word)", "numbers_told": "(self)",
        },
    },
    "disk": {
        "Disk": {
            "__init__": "(self)", "put": "(self, name, row)", "drop": "(self, name)", "names": "(self)",
            "read": "(self, name)", "writes": "(self)", "cut": "(self, many)",
        },
    },
    "shelves": {
        "Shelf": {
            "__init__": "(self, disk)", "__len__": "(self)", "give": "(self, entries)", "seal": "(self)",
            "pour": "(self, at)", "trim": "(self, floor)", "moment": "(self)", "floor": "(self)", "parts": "(self)",
            "view": "(self, moment, *, struck=())",
        },
    },
    "views": {
        "View": {
            "book": "(self)", "counts": "(self)", "shown": "(self)", "page": "(self, address)", "found": "(self, word)",
        },
    },
    "shards": {
        "Shard": {
            "__init__": "(self, seats=3)", "offer": "(self, entry)", "fall": "(self, seat, *, undone=0)",
            "rise": "(self, seat)", "late": "(self, seat)", "on_time": "(self, seat)", "seal": "(self, seat)",
            "pour": "(self, seat, at)", "trim": "(self, seat)", "sure": "(self)", "moments": "(self)", "log": "(self)",
            "view": "(self, *, struck=())",
        },
    },
    "frontier": {
        "Frontier": {
            "__init__": "(self, seeds, *, gap=2, lanes=2, most=24)", "picks": "(self, tick)",
            "looked": "(self, address, tick, links)", "known": "(self)", "bound": "(self)",
        },
    },
    "house": {
        "House": {
            "__init__": "(self, seeds, *, shards=2, seats=3, gap=2, lanes=2, most=24)", "tick": "(self, world)",
            "fall": "(self, shard, seat, *, undone=0)", "rise": "(self, shard, seat)", "late": "(self, shard, seat)",
            "on_time": "(self, shard, seat)", "seal": "(self, shard, seat)", "trim": "(self, shard, seat)",
            "pour": "(self, shard, seat, at)", "strike": "(self, prefix)", "free": "(self, prefix)",
            "ask": "(self, text, *, k=5, dark=False)", "held": "(self)", "now": "(self)", "struck": "(self)",
            "known": "(self)", "sure": "(self)", "deeds": "(self)", "log": "(self)",
        },
    },
    "desk": {"Desk": {"__init__": "(self)", "answer": "(self, row)"}},
}


class InterfaceTest(unittest.TestCase):
    def test_functions(self):
        for file, functions in FUNCTIONS.items():
            module = importlib.import_module("asifread." + file)
            for name, arguments in functions.items():
                with self.subTest(file=file, name=name):
                    function = getattr(module, name)
                    self.assertTrue(inspect.isfunction(function))
                    self.assertEqual(function.__module__, "asifread." + file)
                    self.assertEqual(str(inspect.signature(function)), arguments)

    def test_classes(self):
        for file, classes in CLASSES.items():
            module = importlib.import_module("asifread." + file)
            for name, methods in classes.items():
                with self.subTest(file=file, name=name):
                    kind = getattr(module, name)
                    self.assertTrue(inspect.isclass(kind))
                    self.assertEqual(kind.__module__, "asifread." + file)
                    for method, arguments in methods.items():
                        # In the class itself, not in a base class.
                        self.assertEqual(str(inspect.signature(vars(kind)[method])), arguments)
