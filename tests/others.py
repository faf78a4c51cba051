"""Things of other kinds than the document tells, for tests "of anything"."""


def nested(kind, deep):
    """A thing with so many of a kind, "tuple", "list" or "dict", within one another."""
    thing = ()
    for _ in range(deep):
        if kind == "tuple":
            thing = (thing,)
        elif kind == "list":
            thing = [thing]
        else:
            thing = {"a": thing}
    return thing


class Strange:
    """A thing that calls itself equal to any other."""

    def __eq__(self, other):
        return True

    __hash__ = None


DEEP = [nested(kind, 5000) for kind in ("tuple", "list", "dict")]

NO_TEXTS = [
    None, True, False, 0, 1, -1, 10 ** 100, 1.5, (), [], {}, set(), b"", b"a", b"a/", ("a/",), ["a/"], {"a/": "a/"},
    ("a",), ["a"], {"a": 1}, object(), Strange, Strange(), len, ((), ((),)),
] + DEEP
