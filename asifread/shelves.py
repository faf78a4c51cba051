"""Shelves: entries kept on a disk, sealed into parts that are poured together, and looked at by views."""

from asifread.coding import Taker, is_entry, number_row
from asifread.errors import BadEntry, NoMoment, NoPart
from asifread.kinds import is_between, is_list
from asifread.parts import Part, part_of, poured
from asifread.views import View

MOST_GIVEN = 9
# What stands in the files: the floor, the entries of one give each, one part each. Of the last two the number of the
# first entry stands behind the name.
FLOOR_FILE = "floor"
GIVE_FILE = "give "
PART_FILE = "part "


class Shelf:
    """Entries, numbered from 0 on, with all that is kept of them on the disk."""

    def __init__(self, disk):
        self.disk = disk
        self.least = floor_on(disk)
        self.sealed = parts_on(disk, PART_FILE, 0)
        # The entries that are in no part yet, as one Part for each give.
        self.given = parts_on(disk, GIVE_FILE, end_of(self.sealed, 0))

    def __len__(self):
        return len([entry for part in self.sealed + self.given for entry in part.entries if entry is not None])

    def give(self, entries):
        """Take 1 to 9 entries, numbered on."""
        check_entries(entries)
        part = Part(self.moment(), entries)
        self.disk.put(file_name(GIVE_FILE, part), part.numbers_told())
        self.given.append(part)

    def seal(self):
        """Make one part of all entries that are in none; tell how many they were."""
        entries = [entry for part in self.given for entry in part.entries]
        if len(entries) > 0:
            part = Part(end_of(self.sealed, 0), entries)
            self.disk.put(file_name(PART_FILE, part), part.numbers_told())
            self.sealed.append(part)
            self.given = []
            self.make_room()
        return len(entries)

    def pour(self, at):
        """Pour the parts at this place and the next one together."""
        if not is_between(at, 0, len(self.sealed) - 2):
            raise NoPart("no two parts there")
        part = poured(self.sealed[at], self.sealed[at + 1], self.least)
        # It has the first one's name, and stands in its place at once; from then on the other one is left out.
        self.disk.put(file_name(PART_FILE, part), part.numbers_told())
        self.sealed[at:at + 2] = [part]
        self.make_room()

    def trim(self, floor):
        """Let the floor be at least that from now on."""
        if not is_between(floor, 0, self.moment()):
            raise NoMoment("no number from 0 to the moment")
        least = max(floor, self.least)
        self.disk.put(FLOOR_FILE, number_row(least))
        self.least = least

    def moment(self):
        """How many entries were given."""
        return end_of(self.given, end_of(self.sealed, 0))

    def floor(self):
        """The least moment of which a view can be had."""
        return self.least

    def parts(self):
        """The list of (first, end) of the parts."""
        return [(part.first, part.end) for part in self.sealed]

    def view(self, moment, *, struck=()):
        """The View of what stands behind the first so many entries."""
        if not is_between(moment, self.least, self.moment()):
            raise NoMoment("no number from the floor to the moment")
        return View(self.sealed + self.given, moment, struck)

    def make_room(self):
        """Drop the files of entries that stand in another file, too, also those that an elder fall left."""
        live = [file_name(PART_FILE, part) for part in self.sealed]
        live.extend([file_name(GIVE_FILE, part) for part in self.given])
        entered = [name for name in self.disk.names() if name.startswith(PART_FILE) or name.startswith(GIVE_FILE)]
        for name in entered:
            if name not in live:
                self.disk.drop(name)


def check_entries(entries):
    """Refuse what is no list of 1 to 9 entries."""
    if not is_list(entries) or len(entries) == 0:
        raise BadEntry(0)
    for at, entry in enumerate(entries):
        if not is_entry(entry):
            raise BadEntry(at)
    if len(entries) > MOST_GIVEN:
        raise BadEntry(MOST_GIVEN)


def file_name(kind, part):
    """The name of the file of that kind in which the Part stands."""
    return kind + str(part.first)


def floor_on(disk):
    """The floor that was kept on the disk, at first 0."""
    if FLOOR_FILE not in disk.names():
        return 0
    taker = Taker(disk.read(FLOOR_FILE))
    return taker.take_number()


def parts_on(disk, kind, first):
    """The Parts that stand in files of that kind, one straight behind the other from that number on."""
    told = [part_of(disk.read(name)) for name in disk.names() if name.startswith(kind)]
    found = []
    for part in sorted(told, key=lambda one: one.first):
        # One that begins elsewhere is sealed or poured into another one already, and only wasn't dropped yet.
        if part.first == end_of(found, first):
            found.append(part)
    return found


def end_of(parts, first):
    """The end of the last of these Parts that follow one another from that number on."""
    last = parts[-1:]
    return last[0].end if last else first
