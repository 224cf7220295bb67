"""Logs of any helpers: what each entry does, and which deeds overlook something (point 9)."""

from oldsights.books import is_below, is_deed, is_out, meets, need_book, need_marks
from oldsights.errors import NoLog
from oldsights.talks import Talk

HELPERS = 100
LATEST = 1000


def is_helper(thing):
    """Whether the thing, anything, is a helper."""
    return is_below(thing, HELPERS)


def is_late(thing):
    """Whether the thing, anything, tells how late a look is."""
    return is_below(thing, LATEST + 1)


def is_entry(book, thing):
    """Whether the thing, anything, is an entry of a log of the book."""
    if not isinstance(thing, tuple):
        return False
    if len(thing) == 2:
        return thing[0] == "come" and is_out(book, thing[1])
    if len(thing) != 3 or not is_helper(thing[1]):
        return False
    if thing[0] == "look":
        return is_late(thing[2])
    return thing[0] == "do" and is_deed(book, thing[2])


def need_log(book, log):
    """Raise NoLog if this is no log of the book."""
    if not isinstance(log, (list, tuple)) or not all([is_entry(book, entry) for entry in log]):
        raise NoLog("not a log of the book")


def take(talk, entry):
    """Let the talk take the entry; what the log tells of it."""
    if entry[0] == "come":
        return talk.come(entry[1])
    if entry[0] == "look":
        return talk.look(entry[1], entry[2])
    return talk.do(entry[1], entry[2])


def read_log(book, checks, log):
    """What the log tells of each entry: a state or None, the state of a sight, or whether it was accepted."""
    need_book(book)
    need_marks(book, checks)
    need_log(book, log)
    talk = Talk(book, checks)
    return [take(talk, entry) for entry in log]


def would_overlook(talk, page, entry):
    """Whether the entry is a deed ahead of which something happened that the page forbids to overlook."""
    if entry[0] != "do":
        return False
    since = talk.since(entry[1])
    return since is not None and meets(page[entry[2]], since)


def faults_in(book, page, checks, log):
    """The places in the log, ascending, of all accepted deeds that overlook something."""
    need_book(book)
    need_marks(book, page)
    need_marks(book, checks)
    need_log(book, log)
    talk = Talk(book, checks)
    places = []
    for place, entry in enumerate(log):
        # Asked ahead of the entry, since an accepted deed gives its helper a new sight.
        overlooked = would_overlook(talk, page, entry)
        told = take(talk, entry)
        if overlooked and told is True:
            places.append(place)
    return places
