"""Books, rows, marks and trials: what they are, and where rows lead (points 5 to 8)."""

from oldsights.errors import NoBook, NoDeed, NoMarks, NoRow, NoState, NoTrial

MOST_STATES = 10
MOST_KINDS = 10


def is_below(thing, many):
    """Whether the thing, anything, is a whole number from 0 to below many."""
    # True and False are integers for Python, but no whole numbers here.
    return isinstance(thing, int) and not isinstance(thing, bool) and 0 <= thing < many


def is_kind(many, thing):
    """Whether the thing, anything, is a kind of a book with so many states."""
    if not isinstance(thing, tuple) or len(thing) != 2:
        return False
    who, steps = thing
    if who not in ("out", "deed") or not isinstance(steps, tuple) or len(steps) != many:
        return False
    return all([step is None or is_below(step, many) for step in steps])


def is_book(thing):
    """Whether the thing, anything, is a book."""
    if not isinstance(thing, tuple) or len(thing) != 2:
        return False
    many, kinds = thing
    if not is_below(many, MOST_STATES + 1) or many < 1:
        return False
    if not isinstance(kinds, tuple) or not 1 <= len(kinds) <= MOST_KINDS:
        return False
    return all([is_kind(many, kind) for kind in kinds])


def need_book(book):
    """Raise NoBook if this is none."""
    if not is_book(book):
        raise NoBook("not a book")


# From here on the book is known to be one: only the functions of the interface ask need_book, the others do not.


def is_state(book, thing):
    """Whether the thing, anything, is a state of the book."""
    return is_below(thing, book[0])


def is_number(book, thing):
    """Whether the thing, anything, is the number of a kind."""
    return is_below(thing, len(book[1]))


def is_out(book, thing):
    """Whether the thing, anything, is the number of a kind that comes from outside."""
    return is_number(book, thing) and book[1][thing][0] == "out"


def is_deed(book, thing):
    """Whether the thing, anything, is the number of a kind that is a deed."""
    return is_number(book, thing) and book[1][thing][0] == "deed"


def kinds_of(book):
    """The numbers of all kinds, ascending."""
    return list(range(len(book[1])))


def deeds_of(book):
    """The numbers of all kinds that are deeds, ascending."""
    return [k for k in kinds_of(book) if is_deed(book, k)]


def outs_of(book):
    """The numbers of all kinds that are out, ascending."""
    return [k for k in kinds_of(book) if is_out(book, k)]


def is_row_here(book, thing):
    """Whether the thing, anything, is a row of the book."""
    return isinstance(thing, (list, tuple)) and all([is_number(book, k) for k in thing])


def is_mark(book, kind, thing):
    """Whether the thing, anything, can stand in marks for this kind."""
    if not isinstance(thing, tuple) or not all([is_number(book, k) for k in thing]):
        return False
    if kind[0] == "out" and len(thing) > 0:
        return False
    return all([low < high for low, high in zip(thing, thing[1:])])


def is_marks_here(book, thing):
    """Whether the thing, anything, is marks of the book."""
    if not isinstance(thing, tuple) or len(thing) != len(book[1]):
        return False
    return all([is_mark(book, kind, mark) for kind, mark in zip(book[1], thing)])


def behind(book, state, k):
    """The state behind kind k if it comes in the state, or None if it cannot come."""
    return book[1][k][1][state]


def states_with(book, states, k):
    """Those of the states in which kind k can come."""
    return [s for s in states if behind(book, s, k) is not None]


def states_behind(book, states, kinds):
    """All states to which one of these kinds leads from one of these states, perhaps several times."""
    return [behind(book, s, k) for k in kinds for s in states_with(book, states, k)]


def reached(book, starts, kinds):
    """All states, ascending, to which some row of these kinds leads from one of the starts."""
    found = {s: True for s in starts}
    left = list(found)
    while left:
        at = left.pop()
        for k in kinds:
            to = behind(book, at, k)
            if to is not None and to not in found:
                found[to] = True
                left.append(to)
    return sorted(found)


def led_here(book, state, row):
    """The state behind the row, or None if one of its kinds cannot come."""
    for k in row:
        state = behind(book, state, k)
        if state is None:
            return None
    return state


def is_trial(book, d, ahead, between):
    """Whether ahead and between, anything, are a trial of the deed."""
    if not is_row_here(book, ahead) or not is_row_here(book, between):
        return False
    looked = led_here(book, 0, ahead)
    if looked is None or behind(book, looked, d) is None:
        return False
    done = led_here(book, looked, between)
    return done is not None and behind(book, done, d) is not None


def need_state(book, state):
    """Raise NoState if this is no state of the book."""
    if not is_state(book, state):
        raise NoState("not a state of the book")


def need_row(book, row):
    """Raise NoRow if this is no row of the book."""
    if not is_row_here(book, row):
        raise NoRow("not a row of the book")


def need_marks(book, marks):
    """Raise NoMarks if these are no marks of the book."""
    if not is_marks_here(book, marks):
        raise NoMarks("not marks of the book")


def need_deed(book, d):
    """Raise NoDeed if this is not the number of a deed."""
    if not is_deed(book, d):
        raise NoDeed("not the number of a deed")


def need_trial(book, d, ahead, between):
    """Raise NoTrial if these are no trial of the deed."""
    if not is_trial(book, d, ahead, between):
        raise NoTrial("not a trial of the deed")


def is_row(book, thing):
    """Whether the thing, anything, is a row of the book."""
    need_book(book)
    return is_row_here(book, thing)


def is_marks(book, thing):
    """Whether the thing, anything, is marks of the book."""
    need_book(book)
    return is_marks_here(book, thing)


def led(book, state, row):
    """The state behind all kinds of the row, from the state on, or None if one of them cannot come."""
    need_book(book)
    need_state(book, state)
    need_row(book, row)
    return led_here(book, state, row)


def rows_from(book, state):
    """A dict that tells, for each state to which some row leads, the first one of the shortest such rows."""
    found = {state: []}
    level = [state]
    while level:
        # A level is in the order of its rows, and kinds are tried in order:
        # so whatever first finds a state has the least of its shortest rows.
        further = []
        # A copy is walked, since the list that grows here is the next level.
        for at in list(level):
            for k in range(len(book[1])):
                to = behind(book, at, k)
                if to is not None and to not in found:
                    found[to] = found[at] + [k]
                    further.append(to)
        level = further
    return found


def come_to(book, state):
    """All tuples (s, row), s ascending: row is the first one of the shortest rows from the state to s."""
    need_book(book)
    need_state(book, state)
    found = rows_from(book, state)
    return [(s, found[s]) for s in sorted(found)]


def meets(mark, row):
    """Whether a kind of the mark is in the row."""
    return any([k in row for k in mark])


def accepts(book, checks, d, ahead, between):
    """Whether the checks accept this trial of the deed."""
    need_book(book)
    need_marks(book, checks)
    need_deed(book, d)
    need_trial(book, d, ahead, between)
    return not meets(checks[d], between)


def overlooks(book, page, d, ahead, between):
    """Whether this trial of the deed overlooks what the page forbids."""
    need_book(book)
    need_marks(book, page)
    need_deed(book, d)
    need_trial(book, d, ahead, between)
    return meets(page[d], between)
