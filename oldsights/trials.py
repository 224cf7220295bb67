"""Checks told back: which are left by trials that were accepted or refused, and what to try next (points 18, 19)."""

from oldsights.books import behind, is_trial, kinds_of, need_book, need_deed, rows_from
from oldsights.errors import NoTold
from oldsights.faults import looks_for
from oldsights.orders import all_tuples


def is_told(book, d, thing):
    """Whether the thing, anything, is a trial of the deed together with a truth."""
    if not isinstance(thing, tuple) or len(thing) != 3:
        return False
    ahead, between, truth = thing
    return isinstance(truth, bool) and is_trial(book, d, ahead, between)


def need_told(book, d, told):
    """Raise NoTold if these are not told trials of the deed."""
    if not isinstance(told, (list, tuple)) or not all([is_told(book, d, one) for one in told]):
        raise NoTold("not told trials of the deed")


# Kinds are counted often here, and in any order: a set of them is a number that has the bit 1 << k for each kind k.


def bits_of(row):
    """The bits of all kinds in the row."""
    bits = 0
    for k in row:
        bits = bits | (1 << k)
    return bits


def agrees(checked, seen):
    """Whether these checks accept and refuse as was seen; seen are pairs of the bits of a row between and a truth."""
    bits = bits_of(checked)
    return all([(bits & row == 0) == truth for row, truth in seen])


def left_here(book, told):
    """All tuples that accept what is told with True and refuse what is told with False."""
    seen = [(bits_of(trial[1]), trial[2]) for trial in told]
    return [checked for checked in all_tuples(kinds_of(book)) if agrees(checked, seen)]


def left_checks(book, d, told):
    """All tuples that as checks of the deed accept and refuse the trials as they are told."""
    need_book(book)
    need_deed(book, d)
    need_told(book, d, told)
    return left_here(book, told)


def walks_from(book, looks):
    """All that can come behind these looks: for each state and bits of what came, the look and a shortest row."""
    found = {(s, 0): (s, []) for s in looks}
    level = list(found)
    while level:
        further = []
        # A copy is walked, since the list that grows here is the next level.
        for state, bits in list(level):
            look, row = found[(state, bits)]
            for k in kinds_of(book):
                to = (behind(book, state, k), bits | (1 << k))
                if to[0] is not None and to not in found:
                    found[to] = (look, row + [k])
                    further.append(to)
        level = further
    return found


def rows_between(book, d):
    """For each bits of a row between of some trial of the deed, the state of the look and a shortest such row."""
    # No row goes through a state twice with the same bits: so it has at most 109 entries, even with ten kinds.
    walks = walks_from(book, looks_for(book, d))
    found = {}
    for s, bits in walks:
        if behind(book, s, d) is not None:
            found.setdefault(bits, walks[(s, bits)])
    return found


def left_at_most(left, bits):
    """How many of these, each as bits, are left at most, whether what has these bits is accepted or refused."""
    accepting = len([checked for checked in left if checked & bits == 0])
    return max(accepting, len(left) - accepting)


def next_trial(book, d, told):
    """None if no trial parts the tuples that are left, else (ahead, between, many) with as little many as can be."""
    need_book(book)
    need_deed(book, d)
    need_told(book, d, told)
    left = [bits_of(checked) for checked in left_here(book, told)]
    rows = rows_between(book, d)
    counts = {bits: left_at_most(left, bits) for bits in rows}
    # Of a trial that all accept, or none does, as many are left as there were.
    fewest = min([len(left)] + list(counts.values()))
    if fewest == len(left):
        return None
    best = [bits for bits in rows if counts[bits] == fewest]
    look, between = rows[best[0]]
    return (rows_from(book, 0)[look], between, fewest)
