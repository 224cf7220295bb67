"""Books and logs as texts, and read back from them (point 21)."""

from oldsights.books import MOST_KINDS, MOST_STATES, is_kind, need_book
from oldsights.errors import NoText
from oldsights.logs import is_entry, need_log

FIGURES = "0123456789"
MOST_FIGURES = 30


def states_line(many):
    """The line that tells so many states."""
    return f"states {many}"


def kind_line(kind):
    """The line that writes the kind."""
    who, steps = kind
    return " ".join([who] + ["-" if step is None else str(step) for step in steps])


def entry_line(entry):
    """The line that writes the entry of a log."""
    return " ".join([str(part) for part in entry])


def book_text(book):
    """The text that writes the book."""
    need_book(book)
    many, kinds = book
    return "\n".join([states_line(many)] + [kind_line(kind) for kind in kinds])


def log_text(book, log):
    """The text that writes the log."""
    need_book(book)
    need_log(book, log)
    return "\n".join([entry_line(entry) for entry in log])


def number_in(word):
    """The number that the word writes, perhaps with zeros ahead, or None if it writes none."""
    if not 1 <= len(word) <= MOST_FIGURES or not all([sign in FIGURES for sign in word]):
        return None
    return int(word)


# A line can stand just if what it may mean is right and would be written by this very line: so words that write no
# number, zeros ahead and further spaces need not be looked for.


def states_in(line):
    """The number of states that the line tells, or None if it cannot stand."""
    many = number_in(line.split(" ")[-1])
    if many is None or not 1 <= many <= MOST_STATES or states_line(many) != line:
        return None
    return many


def kind_in(many, line):
    """The kind of a book with so many states that the line writes, or None if it cannot stand."""
    words = line.split(" ")
    kind = (words[0], tuple([number_in(word) for word in words[1:]]))
    return kind if is_kind(many, kind) and kind_line(kind) == line else None


def entry_in(book, line):
    """The entry of a log of the book that the line writes, or None if it cannot stand."""
    words = line.split(" ")
    entry = tuple([words[0]] + [number_in(word) for word in words[1:]])
    return entry if is_entry(book, entry) and entry_line(entry) == line else None


def read_book(text):
    """The book that the text writes."""
    lines = text.split("\n")
    many = states_in(lines[0])
    if many is None:
        raise NoText(1)
    kinds = []
    for number, line in enumerate(lines[1:], start=2):
        kind = kind_in(many, line)
        if kind is None:
            raise NoText(number)
        kinds.append(kind)
    if not 1 <= len(kinds) <= MOST_KINDS:
        raise NoText(len(lines) + 1)
    return (many, tuple(kinds))


def log_read(book, text):
    """The log of the book, as a list, that the text writes."""
    need_book(book)
    # The empty text has no line, where splitting gives it an empty one.
    lines = [] if text == "" else text.split("\n")
    log = []
    for number, line in enumerate(lines, start=1):
        entry = entry_in(book, line)
        if entry is None:
            raise NoText(number)
        log.append(entry)
    return log
