"""Questions as texts, there and back."""

from asifread.errors import NoText
from asifread.kinds import LETTERS_AND_FIGURES, made_of, run_end
from asifread.questions import check_question, is_question
from asifread.words import LONGEST_WORD, root

# For each kind that has parts, the kinds of these parts that want brackets.
IN_BRACKETS = {"not": ("any", "all", "not"), "all": ("any", "all"), "any": ("any",)}
PART_ENDS = " |()"
NEAR_FIGURES = "123456789"


def question_text(question):
    """The text of the question."""
    check_question(question)
    return text_of(question)


def text_of(question):
    """The text of what is known to be a question."""
    kind, told = question[0], question[1]
    if kind == "word":
        return told
    if kind == "row":
        return '"' + " ".join(told) + '"'
    if kind == "near":
        return f"{question[2]}~{told}~{question[3]}"
    if kind == "not":
        return "-" + text_within(kind, told)
    if kind == "all":
        return " ".join([text_within(kind, part) for part in told])
    if kind == "any":
        return " | ".join([text_within(kind, part) for part in told])
    return f"{kind}:{told}"


def text_within(kind, part):
    """The text of a part of a question of that kind, in brackets where it wants them."""
    text = text_of(part)
    return "(" + text + ")" if part[0] in IN_BRACKETS[kind] else text


def read_question(text):
    """The question that is so written."""
    if not isinstance(text, str):
        raise NoText(0)
    question = built(pieces_of(text))
    if not is_question(question):
        raise NoText(0)
    return question


def pieces_of(text):
    """The text cut up: the signs `(`, `)`, `|` and `-`, and the parts between them, as questions."""
    pieces = []
    at = 0
    while at < len(text):
        sign = text[at]
        if sign == " ":
            at += 1
        elif sign in "()|":
            pieces.append(sign)
            at += 1
        elif sign == "-":
            pieces.append(sign)
            at = behind_minus(text, at + 1)
        else:
            end = part_end(text, at)
            pieces.append(read_part(text[at:end]))
            at = end
    return pieces


def behind_minus(text, at):
    """The place of what stands behind a `-`: a bracket, or straight behind it a part."""
    end = at
    while text[end:end + 1] == " ":
        end += 1
    if text[end:end + 1] == "(":
        return end
    if end > at or text[at:at + 1] in ("", "-", "|", ")"):
        raise NoText(0)
    return at


def part_end(text, at):
    """The place behind the part that begins here; blanks do not end a row."""
    if text[at] != '"':
        return run_end(text, at, PART_ENDS)
    end = text.find('"', at + 1) + 1
    if end == 0 or run_end(text, end, PART_ENDS) > end:
        raise NoText(0)
    return end


def read_part(text):
    """The question of one of the first five kinds that is so written; its limits are looked at later."""
    if text.startswith('"'):
        return ("row", read_row(text[1:-1]))
    if text.startswith("title:"):
        return ("title", read_word(text[6:]))
    if text.startswith("house:"):
        return ("house", text[6:])
    if "~" in text:
        return read_near(text.split("~"))
    return ("word", read_word(text))


def read_row(text):
    """The words between the quotes of a row."""
    if text.startswith(" ") or text.endswith(" "):
        raise NoText(0)
    return tuple([read_word(word) for word in text.split(" ") if word != ""])


def read_near(told):
    """The question of what stands ahead of, between and behind each `~`."""
    if len(told) != 3 or len(told[1]) != 1 or told[1] not in NEAR_FIGURES:
        raise NoText(0)
    return ("near", int(told[1]), read_word(told[0]), read_word(told[2]))


def read_word(text):
    """The root of 1 to 12 letters and figures."""
    if not 1 <= len(text) <= LONGEST_WORD or not made_of(text, LETTERS_AND_FIGURES):
        raise NoText(0)
    return root(text)


class Group:
    """What stands between two brackets, or in the whole text, as far as it is gone through."""

    def __init__(self):
        self.rows = [[]]
        self.minus = False

    def take(self, part):
        """The part is the next one; a `-` ahead of it is used up."""
        self.rows[-1].append(("not", part) if self.minus else part)
        self.minus = False

    def question(self):
        """The question of all that stands here."""
        return together("any", [together("all", row) for row in self.rows])


def together(kind, parts):
    """The question of that kind of these parts, or the part where it is alone."""
    # Of no parts this is no question; in the end all is refused that is none.
    return parts[0] if len(parts) == 1 else (kind, tuple(parts))


def built(pieces):
    """The question of these pieces."""
    # The open groups are kept in a list, so that many brackets ask for no deep recursion.
    groups = [Group()]
    for piece in pieces:
        group = groups[-1]
        if piece == "(":
            groups.append(Group())
        elif piece == ")":
            groups.pop()
            if len(groups) == 0:
                raise NoText(0)
            outer = groups[-1]
            outer.take(group.question())
        elif piece == "|":
            group.rows.append([])
        elif piece == "-":
            group.minus = True
        else:
            group.take(piece)
    if len(groups) > 1:
        raise NoText(0)
    last = groups[0]
    return last.question()
