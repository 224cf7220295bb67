"""The order of rows and tuples, and the least tuples of which something holds (points 5, 12, 14 and 17)."""


def by_length(row):
    """What rows and tuples are ordered by: the shorter ones first, of those with as many numbers the lesser first."""
    return (len(row), row)


def first_row(rows):
    """The first one of the shortest of these rows, as a new list."""
    return list(min(rows, key=by_length))


def all_tuples(numbers):
    """All tuples of these numbers, which are ascending, in their order."""
    found = [()]
    for k in numbers:
        found = found + [one + (k,) for one in found]
    return sorted(found, key=by_length)


def one_fewer(one):
    """All tuples that have one of the numbers of this one fewer."""
    return [one[:place] + one[place + 1:] for place in range(len(one))]


def least_tuples(numbers, holds):
    """All tuples of these numbers of which it holds, and with one of their numbers fewer no longer, in their order.

    What holds of a tuple must hold of it with any number more, too.
    """
    good = {}
    found = []
    for one in all_tuples(numbers):
        # So nothing need be asked of a tuple behind a good one.
        if any([fewer in good for fewer in one_fewer(one)]):
            good[one] = True
        elif holds(one):
            good[one] = True
            found.append(one)
    return found
