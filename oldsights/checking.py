"""Checks: which suffice, the least of them, and which accept the same trials (points 12 to 14)."""

from oldsights.books import deeds_of, is_deed, is_row_here, kinds_of, need_book, need_deed, need_marks
from oldsights.errors import NoKinds
from oldsights.faults import is_free, least_fault, looks_for
from oldsights.orders import all_tuples, least_tuples


def need_kinds(book, some):
    """Raise NoKinds if these are not numbers of kinds of the book."""
    # Numbers in any order, also several times: just what a row is.
    if not is_row_here(book, some):
        raise NoKinds("not numbers of kinds of the book")


def safe(book, page, checks):
    """Whether there is no fault of any deed."""
    need_book(book)
    need_marks(book, page)
    need_marks(book, checks)
    return all([is_free(book, d, looks_for(book, d), page[d], checks[d]) for d in deeds_of(book)])


def least_against(book, d, forbidden):
    """All least tuples with which there is no fault of the deed, if this is forbidden to overlook."""
    looks = looks_for(book, d)

    def suffices(checked):
        """Whether there is no fault of the deed with these checks."""
        return is_free(book, d, looks, forbidden, checked)

    return least_tuples(kinds_of(book), suffices)


def least_checks(book, page, d):
    """All least tuples that can be the checks of the deed so that there is no fault of it."""
    need_book(book)
    need_marks(book, page)
    need_deed(book, d)
    return least_against(book, d, page[d])


def fewest_checks(book, page):
    """The checks that have for each deed the first one of its least tuples."""
    need_book(book)
    need_marks(book, page)
    # There always is one: who checks all kinds overlooks nothing.
    return tuple([least_against(book, k, page[k])[0] if is_deed(book, k) else () for k in kinds_of(book)])


def accepted_alone(book, d, one, other):
    """A shortest trial of the deed, (ahead, between), that one accepts and other refuses, or None."""
    # Other refuses just what would overlook something if its checks were the page.
    return least_fault(book, d, other[d], one[d])


def within(book, one, other):
    """None if other accepts each trial that one accepts, else (d, ahead, between) that it does not."""
    need_book(book)
    need_marks(book, one)
    need_marks(book, other)
    for d in deeds_of(book):
        trial = accepted_alone(book, d, one, other)
        if trial is not None:
            ahead, between = trial
            return (d, ahead, between)
    return None


def entries_in(trial):
    """The number of entries in both rows of the trial."""
    return len(trial[0]) + len(trial[1])


def parted(book, one, other):
    """None if both accept the same trials, else (d, ahead, between) that just one of them accepts."""
    need_book(book)
    need_marks(book, one)
    need_marks(book, other)
    for d in deeds_of(book):
        both = [accepted_alone(book, d, one, other), accepted_alone(book, d, other, one)]
        found = [trial for trial in both if trial is not None]
        if found:
            ahead, between = min(found, key=entries_in)
            return (d, ahead, between)
    return None


def covered_by(book, d, looks, some):
    """The numbers, ascending, of all kinds that come in no trial of the deed without one of these."""
    return [k for k in kinds_of(book) if is_free(book, d, looks, (k,), some)]


def covered(book, d, some):
    """The numbers, ascending, of all kinds that come between look and deed only beside one of these."""
    need_book(book)
    need_deed(book, d)
    need_kinds(book, some)
    return tuple(covered_by(book, d, looks_for(book, d), some))


def alike_checks(book, d, some):
    """All tuples that refuse the same trials of the deed as these."""
    need_book(book)
    need_deed(book, d)
    need_kinds(book, some)
    looks = looks_for(book, d)
    # What a tuple refuses, some refuses, too, if it covers the tuple; the other way about, if the tuple covers some.
    inner = all_tuples(covered_by(book, d, looks, some))
    return [checked for checked in inner if is_free(book, d, looks, some, checked)]
