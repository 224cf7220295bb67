"""What waits for ever, what goes round among helpers, and who can end it (points 15 to 17)."""

from oldsights.books import behind, deeds_of, is_state, need_book, outs_of, reached, rows_from, states_behind
from oldsights.errors import NoWaiting
from oldsights.orders import first_row, least_tuples


def need_waiting(book, waiting):
    """Raise NoWaiting if these are not states of the book."""
    if not isinstance(waiting, (list, tuple)) or not all([is_state(book, s) for s in waiting]):
        raise NoWaiting("not states of the book")


def waits_in(rows, waiting):
    """The waits, ascending; rows tell for each state to which some row leads such a row."""
    return [s for s in sorted(rows) if s in waiting]


def is_dead(book, state):
    """Whether no deed can come in the state."""
    return not states_behind(book, [state], deeds_of(book))


def inner_steps(who, steps, waits):
    """The steps of a kind that are those of a deed from a wait to a wait, None for each other step."""
    return tuple([to if who == "deed" and s in waits and to in waits else None for s, to in enumerate(steps)])


def inner_book(book, waits):
    """The book in which nothing can come but what deeds do among the waits."""
    many, kinds = book
    return (many, tuple([(who, inner_steps(who, steps, waits)) for who, steps in kinds]))


def ring_at(inner, wait):
    """The deeds that lead from the wait back to it, or None if none do."""
    for d in deeds_of(inner):
        for to in states_behind(inner, [wait], [d]):
            rows = rows_from(inner, to)
            if wait in rows:
                return [d] + rows[wait]
    return None


def rank_at(inner, ranks, wait):
    """The rank of the wait, if these are the ranks of those to which deeds lead from it."""
    return max([0] + [ranks[to] + 1 for to in states_behind(inner, [wait], deeds_of(inner))])


def ranks_among(inner, waits):
    """The list of the ranks, if nothing goes round."""
    ranks = [0 if s in waits else None for s in range(inner[0])]
    # Each time round, the ranks up to one more are right; none is as great as the number of waits.
    for _ in waits:
        ranks = [rank_at(inner, ranks, s) if s in waits else None for s in range(inner[0])]
    return ranks


def settles(book, waiting):
    """("dead", row), or else ("round", row, ring), or else ("ranks", ranks)."""
    need_book(book)
    need_waiting(book, waiting)
    rows = rows_from(book, 0)
    waits = waits_in(rows, waiting)
    dead = [rows[s] for s in waits if is_dead(book, s)]
    if dead:
        return ("dead", first_row(dead))
    inner = inner_book(book, waits)
    for wait in waits:
        ring = ring_at(inner, wait)
        if ring is not None:
            return ("round", rows[wait], ring)
    return ("ranks", ranks_among(inner, waits))


def swallowed(book, waiting):
    """All tuples (k, row) of kinds that are out, and of the first row behind which the kind is swallowed."""
    need_book(book)
    need_waiting(book, waiting)
    rows = rows_from(book, 0)
    found = []
    for k in outs_of(book):
        # A kind that cannot come has None behind it, which is no state of waiting either.
        lost = [rows[s] for s in rows if behind(book, s, k) not in waiting]
        if lost:
            found.append((k, first_row(lost)))
    return found


def leaves(book, waiting, deeds, wait):
    """Whether some row of these deeds leads from the wait to a state that is not in waiting."""
    return any([s not in waiting for s in reached(book, [wait], deeds)])


def staff(book, waiting):
    """All least tuples of deeds that leave each wait."""
    need_book(book)
    need_waiting(book, waiting)
    waits = waits_in(rows_from(book, 0), waiting)

    def suffice(deeds):
        """Whether these deeds leave each wait."""
        return all([leaves(book, waiting, deeds, wait) for wait in waits])

    return least_tuples(deeds_of(book), suffice)


def stuck(book, waiting):
    """None if all deeds together leave each wait, else the first row to a wait that they do not leave."""
    need_book(book)
    need_waiting(book, waiting)
    rows = rows_from(book, 0)
    deeds = deeds_of(book)
    kept = [rows[s] for s in waits_in(rows, waiting) if not leaves(book, waiting, deeds, s)]
    return first_row(kept) if kept else None
