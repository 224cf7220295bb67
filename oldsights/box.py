"""A live box: a talk that goes on call by call, and that can be taken back (point 20)."""

from oldsights.books import deeds_of, is_below, is_number, is_out, need_book, need_deed, need_marks
from oldsights.errors import NoHelper, NoKind, NoLate, NoNumber
from oldsights.logs import is_helper, is_late, take, would_overlook
from oldsights.talks import Talk


def need_helper(h):
    """Raise NoHelper if this is no helper."""
    if not is_helper(h):
        raise NoHelper("not a helper")


class Box:
    """A talk from its beginning on, in which letters come, and helpers look and do."""

    def __init__(self, book, checks, *, page=None):
        need_book(book)
        need_marks(book, checks)
        if page is not None:
            need_marks(book, page)
        self.book = book
        self.checks = checks
        self.page = ((),) * len(book[1]) if page is None else page
        self.talk = Talk(book, checks)
        # What overlooked returns.
        self.faults = []
        # For each call that has not been taken back its entry, and the talk and the faults ahead of it.
        self.calls = []

    def enter(self, entry):
        """Let the talk take the entry; what a log tells of it."""
        overlooks = would_overlook(self.talk, self.page, entry)
        place = len(self.talk.happened)
        self.calls.append((entry, self.talk, self.faults))
        # A talk or a list of faults that was there ahead of a call never changes: the call may be taken back, and
        # somebody may be iterating over what had happened by then.
        self.talk = self.talk.twin()
        told = take(self.talk, entry)
        if overlooks and told is True:
            self.faults = self.faults + [(entry[1], entry[2], place)]
        return told

    def come(self, k):
        """Let a kind that is out come; the state behind it, or None if it could not."""
        if not is_out(self.book, k):
            raise NoKind("not the number of a kind that is out")
        return self.enter(("come", k))

    def look(self, h, *, late=0):
        """Give the helper a sight; its state."""
        need_helper(h)
        if not is_late(late):
            raise NoLate("not a whole number from 0 to 1,000")
        return self.enter(("look", h, late))

    def do(self, h, d):
        """Let the helper do the deed if it is accepted; whether it was."""
        need_helper(h)
        need_deed(self.book, d)
        return self.enter(("do", h, d))

    def state(self):
        """The state now."""
        return self.talk.states[-1]

    def sight(self, h):
        """The state of the helper's sight, or None without a sight."""
        need_helper(h)
        return self.talk.sight(h)

    def since(self, h):
        """The kinds that have happened since the moment of the helper's sight, or None without a sight."""
        need_helper(h)
        return self.talk.since(h)

    def allowed(self, h):
        """The numbers of all deeds, ascending, that would be accepted of the helper now."""
        need_helper(h)
        return [d for d in deeds_of(self.book) if self.talk.allows(h, d)]

    def overlooked(self):
        """A tuple (h, d, place) for each accepted deed that overlooks something by the page."""
        return list(self.faults)

    def back(self):
        """Take back the last call of come, look or do; whether there was one."""
        if not self.calls:
            return False
        _, self.talk, self.faults = self.calls.pop()
        return True

    def log(self):
        """The log of the calls that have not been taken back."""
        return [call[0] for call in self.calls]

    def __len__(self):
        return len(self.talk.happened)

    def __getitem__(self, at):
        if not is_below(at, len(self.talk.happened)):
            raise NoNumber("not the number of a happening")
        return self.talk.happened[at]

    def __contains__(self, x):
        # A row of numbers has True in it for Python if it has 1: so only numbers are looked for.
        return is_number(self.book, x) and x in self.talk.happened

    def __iter__(self):
        return iter(self.talk.happened)

    def __eq__(self, other):
        return (isinstance(other, Box) and self.book == other.book and self.checks == other.checks
                and self.talk.happened == other.talk.happened and self.talk.moments == other.talk.moments)

    def __ne__(self, other):
        return not self == other
