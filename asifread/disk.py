"""A disk that keeps files, and knows how it stood behind each of its writes."""

from asifread.errors import NoFile
from asifread.kinds import is_between


class Disk:
    """Files, each a list of numbers under a name."""

    def __init__(self):
        self.files = {}
        # Each write that was done, as (name, row): the row is None where the file was dropped.
        self.done = []

    def put(self, name, row):
        """A copy of the row stands there from now on."""
        kept = list(row)
        self.files[name] = kept
        self.done.append((name, kept))

    def drop(self, name):
        """The file is there no more."""
        self.check_file(name)
        del self.files[name]
        self.done.append((name, None))

    def names(self):
        """The rising list of the files' names."""
        return sorted(self.files)

    def read(self, name):
        """A copy of what stands there."""
        self.check_file(name)
        return list(self.files[name])

    def writes(self):
        """How many files were put and dropped."""
        return len(self.done)

    def cut(self, many):
        """A new Disk that stands as this one did behind its first so many writes."""
        if not is_between(many, 0, len(self.done)):
            raise NoFile("no such number of writes")
        fresh = Disk()
        writes = self.done[:many]
        for name, row in writes:
            if row is None:
                fresh.drop(name)
            else:
                fresh.put(name, row)
        return fresh

    def check_file(self, name):
        """Refuse what is no file's name."""
        if name not in self.files:
            raise NoFile("no such file")
