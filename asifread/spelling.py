"""Edits of words, how far words are from one another, and the nearest one."""

from asifread.kinds import SMALL, is_between, is_list

LONG_WORD = 5


def edited(word, edits):
    """The word behind these edits, one behind the other; None where they are no list of such."""
    if not is_list(edits):
        return None
    for edit in edits:
        word = edited_once(word, edit)
        if word is None:
            return None
    return word


def edited_once(word, edit):
    """The word behind one edit, or None of what is no edit of it."""
    if not is_edit(edit):
        return None
    kind, at = edit[0], edit[1]
    if not is_between(at, 0, last_place(word, kind)):
        return None
    if kind == "put":
        return word[:at] + edit[2] + word[at:]
    if kind == "drop":
        return word[:at] + word[at + 1:]
    if kind == "change":
        return word[:at] + edit[2] + word[at + 1:] if edit[2] != word[at] else None
    return word[:at] + word[at + 1] + word[at] + word[at + 2:] if word[at] != word[at + 1] else None


def is_edit(thing):
    """Whether the thing has the form of an edit, whatever it tells as its place."""
    if not isinstance(thing, tuple) or len(thing) not in (2, 3) or not isinstance(thing[0], str):
        return False
    if len(thing) == 2:
        return thing[0] in ("drop", "swap")
    sign = thing[2]
    return thing[0] in ("put", "change") and isinstance(sign, str) and len(sign) == 1 and sign in SMALL


def last_place(word, kind):
    """The last place in the word at which an edit of that kind may be done; below 0 where there is none."""
    if kind == "put":
        return len(word)
    return len(word) - 2 if kind == "swap" else len(word) - 1


def distance(one, other):
    """The least number of edits by which one becomes other, no sign being touched twice."""
    return rests(one, other)[0][0]


def rests(one, other):
    """For each place in one, the ends too, and each in other: the distance between what stands from there on."""
    table = [[0] * (len(other) + 1) for _ in range(len(one) + 1)]
    for i in reversed(range(len(one) + 1)):
        for j in reversed(range(len(other) + 1)):
            table[i][j] = min([cost + table[k][m] for cost, k, m in steps(one, other, i, j)], default=0)
    return table


def steps(one, other, i, j):
    """The list of (cost, places behind it in one and in other) of what may be done first at these places."""
    found = []
    if i < len(one) and j < len(other):
        found.append((0 if one[i] == other[j] else 1, i + 1, j + 1))
    if i < len(one):
        found.append((1, i + 1, j))
    if j < len(other):
        found.append((1, i, j + 1))
    if i + 1 < len(one) and j + 1 < len(other) and one[i] == other[j + 1] and one[i + 1] == other[j]:
        found.append((1, i + 2, j + 2))
    return found


def edits_between(one, other):
    """A list of as many edits as the distance, by which one becomes other."""
    table = rests(one, other)
    edits = []
    i, j = 0, 0
    while i < len(one) or j < len(other):
        left = table[i][j]
        cost, k, m = [step for step in steps(one, other, i, j) if step[0] + table[step[1]][step[2]] == left][0]
        if cost == 1:
            edits.append(edit_of(other, j, k - i, m - j))
        i, j = k, m
    return edits


def edit_of(other, j, many, made):
    """The edit that makes so many signs of other, from j on, out of so many of one."""
    # The word is other up to j by then, so j is the place of the edit in it.
    if many == 0:
        return ("put", j, other[j])
    if made == 0:
        return ("drop", j)
    return ("change", j, other[j]) if made == 1 else ("swap", j)


def nearest(words, word):
    """The nearest of words to the word, of like ones that of the greatest count, then the least; None of none near."""
    farthest = 2 if len(word) >= LONG_WORD else 1
    near = []
    for other in words:
        # Words of lengths that differ by more cannot be near, and need not be looked at.
        if abs(len(other) - len(word)) <= farthest:
            far = distance(word, other)
            if far <= farthest:
                near.append((far, -words[other], other))
    return min(near)[2] if near else None


def nearest_of_each(words, asked):
    """A dict from each asked word that is none of words to the nearest of them, if there is one."""
    found = {}
    for word in asked:
        other = None if word in words else nearest(words, word)
        if other is not None:
            found[word] = other
    return found
