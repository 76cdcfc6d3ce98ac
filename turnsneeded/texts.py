"""Programs and logs told as texts."""

from turnsneeded.logs import check_log

BLOCK = 10 ** 64
BLOCK_FIGURES = 64


def figures(number):
    """An integer in figures, of whatever length: Python itself refuses to write very long ones."""
    if number < 0:
        return "-" + figures(-number)
    blocks = []
    while number >= BLOCK:
        number, last = divmod(number, BLOCK)
        blocks.append(str(last).zfill(BLOCK_FIGURES))
    blocks.append(str(number))
    return "".join(reversed(blocks))


def program_text(program):
    """The text of a program, a line for its sides, its tables and each of its readings."""
    lines = [f"sides {program.sides}\n", f"tables {program.tables}\n"]
    for reader, read, step in program.readings:
        words = [figures(part) for part in (reader, read) + step]
        lines.append(" ".join(words) + "\n")
    return "".join(lines)


def log_text(program, log):
    """The text of a log, words with a blank between."""
    check_log(program, log)
    return " ".join(log_words(log))


def log_words(log):
    """The words of a log, whose rounds are never nested deep."""
    words = []
    for item in log:
        if isinstance(item, tuple):
            _, many, inner = item
            words.append(figures(many) + "(")
            words.extend(log_words(inner))
            words.append(")")
        else:
            words.append(figures(item))
    return words
