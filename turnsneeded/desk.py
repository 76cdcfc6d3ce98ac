"""A desk, which keeps programs under names and answers lines."""

from turnsneeded.boxes import longest
from turnsneeded.errors import NoLine, NoName, NothingDone
from turnsneeded.flows import kept
from turnsneeded.judging import is_world
from turnsneeded.levels import depths, parts, works
from turnsneeded.reading import is_count, read_program
from turnsneeded.texts import log_text
from turnsneeded.turns import turn

LETTERS = "abcdefghijklmnopqrstuvwxyz"
LONGEST_NAME = 8
# What stands behind the first word of a line.
FORMS = {
    "program": ("name", "text"),
    "drop": ("name",),
    "names": (),
    "show": ("name",),
    "undo": (),
    "works": ("name", "world"),
    "depths": ("name", "world"),
    "kept": ("name", "world"),
    "turn": ("name", "world"),
    "parts": ("name",),
    "longest": ("name", "number", "number"),
}


def is_name(word):
    """Whether a word may be the name of a program."""
    return 1 <= len(word) <= LONGEST_NAME and all([sign in LETTERS for sign in word])


def is_right(kind, word):
    """Whether a word, or a text, is of the kind that a form asks for."""
    if kind == "name":
        return is_name(word)
    if kind == "world":
        return is_world(word)
    if kind == "number":
        return is_count(word)
    return len(word) > 0


def words_of(line):
    """The list of the words of a line, NoLine if it has none of the forms."""
    if not isinstance(line, str) or "\n" in line:
        raise NoLine()
    first = line.split(" ")[0]
    if first not in FORMS:
        raise NoLine()
    form = FORMS[first]
    # A text may have blanks in it, all other lines are parted at each.
    words = line.split(" ", 2) if "text" in form else line.split(" ")
    if len(words) != 1 + len(form) or not all([is_right(kind, word) for kind, word in zip(form, words[1:])]):
        raise NoLine()
    return words


def joined(numbers):
    """Numbers with blanks between, or that there are none."""
    return " ".join([str(number) for number in numbers]) if len(numbers) > 0 else "none"


def told_works(program, rest):
    """The answer to a works line."""
    return "yes" if works(program, rest[0]) else "no"


def told_depths(program, rest):
    """The answer to a depths line."""
    counts = depths(program, rest[0])
    return "turn" if counts is None else joined(counts)


def told_kept(program, rest):
    """The answer to a kept line."""
    return joined(kept(program, everything(program), rest[0]))


def told_turn(program, rest):
    """The answer to a turn line."""
    log = turn(program, rest[0])
    return "none" if log is None else log_text(program, log)


def told_parts(program, rest):
    """The answer to a parts line."""
    return str(len(parts(program, everything(program))))


def told_longest(program, rest):
    """The answer to a longest line."""
    return str(longest(program, (int(rest[1]),) * program.sides, int(rest[0])))


def everything(program):
    """The lot of all readings."""
    return tuple(range(len(program.readings)))


ANSWERS = {
    "works": told_works,
    "depths": told_depths,
    "kept": told_kept,
    "turn": told_turn,
    "parts": told_parts,
    "longest": told_longest,
}


class Desk:
    """Programs under names, told and asked for by lines."""

    def __init__(self):
        self.texts = {}
        self.past = []

    def tell(self, line):
        """Does one line and returns its answer."""
        words = words_of(line)
        if words[0] == "names":
            return " ".join(sorted(self.texts)) if len(self.texts) > 0 else "none"
        if words[0] == "undo":
            return self._undo()
        if words[0] == "program":
            read_program(lines_of(words[2]))
            return self._keep(words[1], words[2])
        if words[1] not in self.texts:
            raise NoName(words[1])
        if words[0] == "drop":
            return self._keep(words[1], None)
        text = self.texts[words[1]]
        if words[0] == "show":
            return text
        action = ANSWERS[words[0]]
        return action(read_program(lines_of(text)), words[2:])

    def undoable(self):
        """How many lines can be taken back."""
        return len(self.past)

    def _keep(self, name, text):
        # A text of None stands for a name under which nothing is kept.
        self.past.append((name, self.texts.get(name, None)))
        self._put(name, text)
        return "ok"

    def _put(self, name, text):
        if text is None:
            del self.texts[name]
        else:
            self.texts[name] = text

    def _undo(self):
        if len(self.past) == 0:
            raise NothingDone()
        name, text = self.past.pop()
        self._put(name, text)
        return "ok"


def lines_of(text):
    """The lines of a text that a line of the desk told."""
    return text.replace("|", "\n")
