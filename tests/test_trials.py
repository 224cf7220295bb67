"""Tests of oldsights.trials (points 2 to 4, 7, 18 and 19)."""

import unittest
from random import Random

from oldsights.books import accepts
from oldsights.checking import alike_checks
from oldsights.errors import NoBook, NoDeed, NoTold
from oldsights.trials import left_checks, next_trial
from tests import samples
from tests.samples import LEAST, LINE, LOOP, MAIL, RING, same

EXAMPLES = """
>>> from oldsights.trials import left_checks, next_trial
>>> one = (1, (("deed", (0,)), ("out", (0,))))
>>> [left_checks(one, 0, [([], [1], False), ([1], [0], True)]), left_checks(one, 0, [([], [], False)]), next_trial(one, 0, [])[2]]
[[(1,)], [], 2]
"""
ERRORS = [(NoBook, samples.WRONG_BOOKS), (NoDeed, samples.WRONG_DEEDS), (NoTold, samples.WRONG_TOLD)]
# Eight deeds in one state, each of which can come at any time.
FREE = (1, (("deed", (0,)),) * 8)
# From each state just one of nine kinds leads on: between two deeds 0 all of them come, or none.
ROUND = (9, (("deed", (1,) + (None,) * 8),) + tuple(
    ("out", tuple((s + 1) % 9 if s == k else None for s in range(9))) for k in range(1, 8)) + (
    ("out", (None,) * 8 + (0,)),))


def with_checks(book, d, checked):
    """Checks that have this tuple for the deed."""
    return tuple(checked if k == d else () for k in range(len(book[1])))


def some_told(random, book, d, hidden, many):
    """Told trials of the deed, of rows taken at random; the truth is that of the hidden tuple, or any if it is None."""
    told = []
    for _ in range(4 * many):
        row = [random.randrange(len(book[1])) for _ in range(random.randrange(8))]
        place = random.randrange(len(row) + 1)
        states = samples.states_along(book, row)
        if len(told) < many and states is not None:
            if None not in [book[1][d][1][s] for s in [states[place], states[-1]]]:
                truth = random.random() < 0.5 if hidden is None else not set(hidden) & set(row[place:])
                told.append((row[:place], tuple(row[place:]), truth))
    return told


class Interface(unittest.TestCase):
    def test_examples_of_the_document(self):
        samples.check_examples(self, EXAMPLES)

    def test_names_of_arguments(self):
        samples.check_interface(self, "oldsights.trials", {
            "left_checks": ["book", "d", "told"],
            "next_trial": ["book", "d", "told"],
        })

    def test_by_name(self):
        told = [([], [1], False), ([1], [0], True)]
        same(self, left_checks(told=told, d=0, book=LOOP), [(1,)])
        same(self, next_trial(told=told, d=0, book=LOOP), None)

    def test_errors(self):
        told = [([0], [0], True), ((0,), (0, 2, 0), False)]
        for function in [left_checks, next_trial]:
            samples.check_errors(self, function, [MAIL, 1, told], ERRORS)
            samples.check_errors(self, function, [MAIL, 1, ()], ERRORS)

    def test_told_of_another_deed(self):
        # The deed 2 can come in the beginning, the deed 1 cannot.
        told = [([], [0], True)]
        same(self, left_checks(MAIL, 2, told), [(), (1,), (2,), (1, 2)])
        for function in [left_checks, next_trial]:
            with self.assertRaises(NoTold):
                function(MAIL, 1, told)
            with self.assertRaises(NoTold):
                function(LEAST, 0, [([], [], True)])

    def test_nothing_changes(self):
        row = [0]
        for function in [left_checks, next_trial]:
            samples.check_stays(self, function, [MAIL, 1, []])
            samples.check_stays(self, function, [MAIL, 1, [([0], [0], False), ([0, 2, 0], [], True)]])
            samples.check_stays(self, function, [MAIL, 1, [(row, row, False), (row, row, False)]])
            samples.check_stays(self, function, [FREE, 3, [([], [0, 1, 2, 3, 4], False)]])
            samples.check_stays(self, function, [RING, 2, ()])


class Left(unittest.TestCase):
    def test_any_told(self):
        random = Random(60)
        count = [0, 0, 0]
        for book in samples.many_books(150, 3, 4) + samples.many_books(60, 6, 6) + [MAIL, LOOP, LINE, LEAST]:
            for d in samples.deeds_in(book):
                hidden = tuple(k for k in range(len(book[1])) if random.random() < 0.4)
                for known in [hidden, None]:
                    told = some_told(random, book, d, known, random.randrange(6))
                    found = left_checks(book, d, told)
                    same(self, found, samples.plain_left(book, told))
                    same(self, left_checks(book, d, tuple(told)), found)
                    self.assertTrue(known is None or known in found)
                    count[min(len(found), 2)] += 1
        self.assertGreater(min(count), 20)

    def test_as_accepts_tells(self):
        random = Random(61)
        for book in samples.many_books(60, 4, 4):
            for d in samples.deeds_in(book):
                told = some_told(random, book, d, None, 3)
                wanted = []
                for one in samples.all_tuples(range(len(book[1]))):
                    checks = with_checks(book, d, one)
                    if all(accepts(book, checks, d, ahead, between) is truth for ahead, between, truth in told):
                        wanted.append(one)
                same(self, left_checks(book, d, told), wanted)

    def test_none_told(self):
        for told in [[], ()]:
            same(self, left_checks(LOOP, 0, told), [(), (0,), (1,), (0, 1)])
            same(self, left_checks(LEAST, 0, told), [(), (0,)])
            same(self, left_checks(RING, 0, told), samples.all_tuples(range(10)))

    def test_order(self):
        same(self, left_checks(FREE, 0, [([], [2, 5], False), ([], [0, 1, 3, 4], True)]),
             [(2,), (5,), (2, 5), (2, 6), (2, 7), (5, 6), (5, 7), (2, 5, 6), (2, 5, 7), (2, 6, 7), (5, 6, 7),
              (2, 5, 6, 7)])

    def test_told_with_both_truths(self):
        told = [([], [1], False), ([], [1], True)]
        same(self, left_checks(LOOP, 0, told), [])
        same(self, left_checks(LOOP, 0, told[::-1]), [])
        # It is the row between that counts: these are not the same trial, but can have no two truths either.
        same(self, left_checks(LOOP, 0, [([0], [1, 1], False), ([], (1,), True)]), [])
        same(self, left_checks(LOOP, 0, [([], [1], False), ([], [1], False)]), [(1,), (0, 1)])

    def test_what_came_ahead_does_not_count(self):
        same(self, left_checks(LOOP, 0, [([0, 1], [], True), ((1, 0), [0], True)]), [(), (1,)])
        same(self, left_checks(LOOP, 0, [([0, 1], [], False)]), [])

    def test_sixty(self):
        # Pairs of kinds of which one at least is checked, and one kind that is not.
        pairs = [([], [k, (k + 1) % 10], False) for k in range(10)]
        book = (1, (("deed", (0,)),) * 10)
        told = pairs * 5 + [([9] * 60, [9] * 60, True)] * 10
        same(self, len(told), 60)
        found = left_checks(book, 4, told)
        same(self, found, samples.plain_left(book, told))
        same(self, [one for one in found if len(one) < 6], [(0, 2, 4, 6, 8)])

    def test_long_rows(self):
        told = [(tuple([1] * 60), [3] * 120, True), ([2] * 120, (1,) * 60, False)]
        found = left_checks(RING, 2, told)
        same(self, found[:3], [(1,), (0, 1), (1, 2)])
        same(self, len(found), 256)


class Next(unittest.TestCase):
    def check(self, book, d, told, trials):
        """Whether there is a next trial, and that what is told of it is right."""
        left = left_checks(book, d, told)
        found = next_trial(book, d, told)
        wanted = samples.plain_fewest_left(trials, left)
        if wanted is None:
            same(self, found, None)
            return None
        ahead, between, many = found
        same(self, [type(found), type(ahead), type(between), many], [tuple, list, list, wanted])
        self.assertLessEqual(max(len(ahead), len(between)), 120)
        accepting = [one for one in left if accepts(book, with_checks(book, d, one), d, ahead, between)]
        same(self, max(len(accepting), len(left) - len(accepting)), many)
        self.assertLess(many, len(left))
        return found

    def test_any_told(self):
        random = Random(62)
        count = [0, 0]
        for book in samples.many_books(150, 3, 4) + samples.many_books(60, 6, 6) + [MAIL, LOOP, LINE, LEAST, FREE]:
            for d in samples.deeds_in(book):
                trials = samples.all_trials(book, d)
                hidden = tuple(k for k in range(len(book[1])) if random.random() < 0.4)
                for known in [hidden, None]:
                    told = some_told(random, book, d, known, random.randrange(5))
                    count[self.check(book, d, told, trials) is None] += 1
        self.assertGreater(min(count), 50)

    def test_short_trials(self):
        for book in samples.many_books(40, 3, 3):
            for d in samples.deeds_in(book):
                self.check(book, d, [], samples.short_trials(book, d))

    def test_large_books(self):
        random = Random(63)
        for book in samples.many_books(60, 10, 8) + [(10, RING[1][:8])]:
            for d in samples.deeds_in(book)[:1]:
                trials = samples.all_trials(book, d)
                for many in [0, 3, 60]:
                    hidden = tuple(k for k in range(len(book[1])) if random.random() < 0.4)
                    self.check(book, d, some_told(random, book, d, hidden, many), trials)

    def test_each_told_until_all_are_alike(self):
        random = Random(64)
        asked = 0
        for book in samples.many_books(40, 6, 6) + [FREE, ROUND[:1] + (ROUND[1][:8],), MAIL]:
            for d in samples.deeds_in(book)[:2]:
                hidden = tuple(k for k in range(len(book[1])) if random.random() < 0.5)
                checks, told = with_checks(book, d, hidden), []
                found = next_trial(book, d, told)
                while found is not None:
                    ahead, between, many = found
                    told.append((ahead, between, accepts(book, checks, d, ahead, between)))
                    self.assertLessEqual(len(left_checks(book, d, told)), many)
                    found = next_trial(book, d, told)
                    asked += 1
                # All that are left refuse the same trials, and no others do.
                same(self, left_checks(book, d, told), alike_checks(book, d, hidden))
        self.assertGreater(asked, 100)

    def test_halves(self):
        # Of eight kinds that come alone, one trial leaves half of the tuples.
        ahead, between, many = next_trial(FREE, 5, [])
        same(self, [ahead, sorted(set(between)) in [[k] for k in range(8)], many], [[], True, 128])
        # If the kinds 0 and 1 come together alone, a quarter of the tuples accepts.
        pair = (2, (("deed", (1, None)), ("out", (None, 0))))
        same(self, next_trial(pair, 0, []), ([], [0, 1], 3))
        same(self, left_checks(pair, 0, [([], [0, 1], True)]), [()])
        same(self, next_trial(pair, 0, [([], [0, 1], False)]), None)

    def test_none(self):
        # One is left; none is left; no trial at all; only one trial, without a kind between.
        same(self, next_trial(LOOP, 0, [([], [0], True), ([], [1], True)]), None)
        same(self, next_trial(LOOP, 0, [([], [], False)]), None)
        same(self, next_trial(LOOP, 0, [([], [1], True), ([], [1], False)]), None)
        same(self, next_trial(LEAST, 0, []), None)
        same(self, next_trial(LINE, 3, ()), None)
        same(self, next_trial((1, (("deed", (0,)),)), 0, [([], [0], False)]), None)
        away = (2, (("out", (1, 1)), ("deed", (1, None))))
        same(self, next_trial(away, 1, []), None)
        same(self, left_checks(away, 1, []), [(), (0,), (1,), (0, 1)])

    def test_the_look_is_led_to(self):
        # Only from state 9 on, nine entries away, can the deed come, and with a letter between.
        late = (10, (("out", tuple(range(1, 10)) + (None,)), ("deed", (None,) * 9 + (9,)),
                     ("out", (None,) * 9 + (9,))))
        ahead, between, many = next_trial(late, 1, [([0] * 9, [1], True)])
        same(self, [ahead, sorted(set(between) - {1}), many], [[0] * 9, [2], 2])

    def test_states_that_nothing_leads_to(self):
        apart = (2, (("out", (None, 1)), ("deed", (None, 1))))
        same(self, next_trial(apart, 1, []), None)

    def test_long_ways(self):
        # Whatever comes between, all nine kinds come: the tuple without a kind is parted from all others.
        same(self, next_trial(ROUND, 0, []), ([], list(range(9)), 511))
        same(self, next_trial(ROUND, 0, [([], list(range(9)), False)]), None)
        same(self, next_trial(ROUND, 0, [([], list(range(9)) * 3, True), (list(range(9)), [], True)]), None)
        # Each of seven letters comes in a state of its own, and each time nine other entries have led there.
        step = ("out", tuple(range(1, 10)) + (0,))
        letters = tuple(("out", tuple(s if s == 9 - k else None for s in range(10))) for k in range(6))
        back = (10, (("deed", (0,) + (None,) * 9), step) + letters)
        trials = samples.all_trials(back, 0)
        hidden = (0, 2, 3, 4, 5, 6, 7)
        told = [([], [1] * 10, True)]
        found = self.check(back, 0, told, trials)
        while found is not None:
            told.append((found[0], found[1], not set(hidden) & set(found[1])))
            found = self.check(back, 0, told, trials)
        same(self, left_checks(back, 0, told), [hidden])

    def test_its_rows_can_be_told(self):
        for book in samples.many_books(30, 10, 8):
            for d in samples.deeds_in(book):
                found = next_trial(book, d, [])
                if found is not None:
                    ahead, between, many = found
                    for truth in [True, False]:
                        self.assertLessEqual(len(left_checks(book, d, [(ahead, between, truth)] * 60)), many)


if __name__ == "__main__":
    unittest.main()
