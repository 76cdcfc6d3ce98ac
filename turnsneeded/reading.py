"""Programs and logs read from texts."""

from turnsneeded.errors import BadText, NoLog
from turnsneeded.logs import is_log
from turnsneeded.programs import Program

FIGURES = "0123456789"
MOST_FIGURES = 60
HEADS = ("sides", "tables")


def is_number(word):
    """Whether a word is an integer as texts tell it."""
    plain = word
    if word.startswith("-"):
        plain = word[1:]
    if not 1 <= len(plain) <= MOST_FIGURES or not all([sign in FIGURES for sign in plain]):
        return False
    return plain[0] != "0" or word == "0"


def is_count(word):
    """Whether a word is an integer from 0 on."""
    return is_number(word) and not word.startswith("-")


def read_program(text):
    """The program of a text."""
    if not isinstance(text, str):
        raise BadText(0)
    lines = text.split("\n")
    rest = lines.pop()
    rows = [line.split(" ") for line in lines]
    for place, words in enumerate(rows):
        if not is_line(place, words):
            raise BadText(place + 1)
    if rest != "" or len(rows) < len(HEADS):
        raise BadText(len(rows) + 1)
    readings = [reading_of(words) for words in rows[2:]]
    return Program(int(rows[0][1]), int(rows[1][1]), tuple(readings))


def is_line(place, words):
    """Whether these words may stand in the line of a place, counted from 0."""
    if place < len(HEADS):
        return len(words) == 2 and words[0] == HEADS[place] and is_number(words[1])
    return len(words) >= 2 and all([is_number(word) for word in words])


def reading_of(words):
    """The reading that the words of a line tell, perhaps none of the program."""
    numbers = [int(word) for word in words]
    return numbers[0], numbers[1], tuple(numbers[2:])


def read_log(program, text):
    """The log of a text."""
    if not isinstance(text, str):
        raise BadText(0)
    words = text.split(" ")
    if text == "":
        words = []
    log = log_of(words)
    if log is None:
        raise BadText(1)
    if not is_log(program, log):
        raise NoLog()
    return log


def log_of(words):
    """What words tell with the form of a log, nested however deep; None if they are not written so."""
    # What stands around the rounds that are not closed yet waits here, as words may open more than may recur.
    around = []
    items = []
    for word in words:
        if word == ")":
            if len(around) == 0 or len(items) == 0:
                return None
            many, outer = around.pop()
            outer.append(("times", many, tuple(items)))
            items = outer
        elif word.endswith("(") and is_count(word[:-1]):
            around.append((int(word[:-1]), items))
            items = []
        elif is_count(word):
            items.append(int(word))
        else:
            return None
    if len(around) > 0:
        return None
    return tuple(items)
