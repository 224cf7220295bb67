"""What a deed can overlook: a shortest trial, or a table that shows that there is none (points 10 and 11)."""

from oldsights.books import (
    is_out, is_state, kinds_of, need_book, need_deed, need_marks, need_trial, reached, rows_from, states_behind,
    states_with,
)
from oldsights.orders import first_row

# Who does the deed of a trial, and who does all other deeds.
DOER = 0
OTHER = 1


# From here on forbidden and checked are what page and checks tell of the one deed.


def free_kinds(book, checked):
    """The kinds that may be between look and deed without the deed being refused."""
    return [k for k in kinds_of(book) if k not in checked]


def calm_kinds(book, forbidden, checked):
    """The free kinds that may be overlooked."""
    return [k for k in free_kinds(book, checked) if k not in forbidden]


def marking_kinds(book, forbidden, checked):
    """The free kinds that must not be overlooked."""
    return [k for k in free_kinds(book, checked) if k in forbidden]


def seen_states(book):
    """The states to which some row leads from the beginning."""
    return reached(book, [0], kinds_of(book))


def looks_for(book, d):
    """The states in which somebody can look who then can do the deed."""
    return states_with(book, seen_states(book), d)


def plain_states(book, looks, forbidden, checked):
    """The states behind what comes after such a look, nothing of it checked or forbidden."""
    return reached(book, looks, calm_kinds(book, forbidden, checked))


def marked_states(book, plain, forbidden, checked):
    """The states behind what comes from the plain states on, something of it forbidden, but nothing checked."""
    first = states_behind(book, plain, marking_kinds(book, forbidden, checked))
    return reached(book, first, free_kinds(book, checked))


def is_free(book, d, looks, forbidden, checked):
    """Whether there is no fault of the deed; looks are those for the deed, which many calls may share."""
    plain = plain_states(book, looks, forbidden, checked)
    return not states_with(book, marked_states(book, plain, forbidden, checked), d)


def least_table(book, d, forbidden, checked):
    """The table with as few states as there can be, if there is no fault of the deed."""
    plain = plain_states(book, looks_for(book, d), forbidden, checked)
    return (seen_states(book), plain, marked_states(book, plain, forbidden, checked))


def moved(steps, far):
    """The steps, each to a state so far on."""
    return tuple([None if to is None else to + far for to in steps])


def trial_steps(many, steps, is_forbidden, is_checked):
    """The steps of a kind in a trial book."""
    if is_checked:
        return steps + (None,) * (2 * many)
    return steps + moved(steps, 2 * many if is_forbidden else many) + moved(steps, 2 * many)


def trial_book(book, d, forbidden, checked):
    """The book of a trial, in which the look is a kind, too, the last one.

    It has each state of the book three times: ahead of the look, then behind it, then behind something forbidden.
    """
    many, kinds = book
    look = tuple([None if to is None else many + s for s, to in enumerate(kinds[d][1])])
    inner = [(who, trial_steps(many, steps, k in forbidden, k in checked)) for k, (who, steps) in enumerate(kinds)]
    return (3 * many, tuple(inner + [("deed", look + (None,) * (2 * many))]))


def least_fault(book, d, forbidden, checked):
    """A fault of the deed, as the tuple of two lists, with as few entries as there can be, or None."""
    many, kinds = book
    rows = rows_from(trial_book(book, d, forbidden, checked), 0)
    # Each of these rows has just one look, so the shortest one has the fewest other entries, too.
    found = [rows[2 * many + s] for s in states_with(book, list(range(many)), d) if 2 * many + s in rows]
    if not found:
        return None
    row = first_row(found)
    place = row.index(len(kinds))
    return (row[:place], row[place + 1:])


def fault(book, page, checks, d):
    """A shortest fault of the deed, ("fault", ahead, between), or ("none", table)."""
    need_book(book)
    need_marks(book, page)
    need_marks(book, checks)
    need_deed(book, d)
    found = least_fault(book, d, page[d], checks[d])
    if found is None:
        return ("none", least_table(book, d, page[d], checks[d]))
    ahead, between = found
    return ("fault", ahead, between)


def is_states(book, thing):
    """Whether the thing, anything, is a list of states, ascending, each state at most once."""
    if not isinstance(thing, list) or not all([is_state(book, s) for s in thing]):
        return False
    return all([low < high for low, high in zip(thing, thing[1:])])


def has_all(states, wanted):
    """Whether all that are wanted are among the states."""
    return all([s in states for s in wanted])


def is_closed(book, states, kinds):
    """Whether none of these kinds leads from one of the states to any other."""
    return has_all(states, states_behind(book, states, kinds))


def is_table(book, page, checks, d, thing):
    """Whether the thing, anything, is a table that shows that there is no fault of the deed."""
    need_book(book)
    need_marks(book, page)
    need_marks(book, checks)
    need_deed(book, d)
    if not isinstance(thing, tuple) or len(thing) != 3 or not all([is_states(book, states) for states in thing]):
        return False
    seen, plain, marked = thing
    forbidden, checked = page[d], checks[d]
    if 0 not in seen or not is_closed(book, seen, kinds_of(book)):
        return False
    if not has_all(plain, states_with(book, seen, d)):
        return False
    if not is_closed(book, plain, calm_kinds(book, forbidden, checked)):
        return False
    if not has_all(marked, states_behind(book, plain, marking_kinds(book, forbidden, checked))):
        return False
    return is_closed(book, marked, free_kinds(book, checked)) and not states_with(book, marked, d)


def row_entries(book, row):
    """The entries with which the row happens: who does its deeds looks right before each."""
    entries = []
    for k in row:
        if is_out(book, k):
            entries.append(("come", k))
        else:
            entries.append(("look", OTHER, 0))
            entries.append(("do", OTHER, k))
    return entries


def log_of(book, d, ahead, between):
    """The log of two helpers for this trial of the deed."""
    need_book(book)
    need_deed(book, d)
    need_trial(book, d, ahead, between)
    return row_entries(book, ahead) + [("look", DOER, 0)] + row_entries(book, between) + [("do", DOER, d)]
