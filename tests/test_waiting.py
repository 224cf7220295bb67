"""Tests of oldsights.waiting (points 2 to 4, 7 and 15 to 17)."""

import unittest
from random import Random

from oldsights.books import led
from oldsights.errors import NoBook, NoWaiting
from oldsights.waiting import settles, staff, stuck, swallowed
from tests import samples
from tests.samples import LEAST, LINE, LOOP, MAIL, RING, same, with_deeds

EXAMPLES = """
>>> from oldsights.waiting import settles, staff, stuck, swallowed
>>> line = (4, (("out", (1, None, None, None)), ("deed", (None, 2, 3, None)), ("deed", (None, 3, None, 0))))
>>> [settles(line, [1, 2, 3]), swallowed(line, [1, 2, 3]), staff(line, [1, 2, 3]), stuck(line, [1, 2, 3])]
[('ranks', [None, 2, 1, 0]), [(0, [0])], [(1, 2)], None]
>>> desk = (2, (("out", (1, 1)), ("deed", (0, None))))
>>> [settles(desk, [1]), stuck(desk, [1]), staff(desk, [1]), staff(desk, [])]
[('dead', [0]), [0], [], [()]]
"""
ALL = [settles, swallowed, staff, stuck]
# What comes leads from state 0 to 1, deeds lead on one by one.
STAIRS = (10, (("out", (1,) + (None,) * 9), ("deed", (None,) + tuple(range(2, 10)) + (None,)),
               ("deed", (None,) * 9 + (0,))))
# Nothing leads to state 2, in which no deed can come and no letter either.
APART = (3, (("out", (1, 1, None)), ("deed", (None, 0, None))))


def some_waiting(random, book):
    """Waiting, as a list or as a tuple, in any order, perhaps with a state twice."""
    chance = random.choice([0.3, 0.7])
    states = [s for s in range(book[0]) if random.random() < chance]
    states += random.choices(states, k=random.randrange(2)) if states else []
    random.shuffle(states)
    return random.choice([list, tuple])(states)


def small_books():
    """Books that all rows can be gone through of; of some all kinds are deeds."""
    return (samples.many_books(80, 3, 3) + samples.many_books(40, 2, 4) + samples.many_books(100, 4, 3)
            + [with_deeds(book) for book in samples.many_books(200, 4, 3)] + [MAIL, LOOP, LEAST, APART])


class Interface(unittest.TestCase):
    def test_examples_of_the_document(self):
        samples.check_examples(self, EXAMPLES)

    def test_names_of_arguments(self):
        samples.check_interface(self, "oldsights.waiting", {function.__name__: ["book", "waiting"] for function in ALL})

    def test_by_name(self):
        same(self, settles(waiting=[1], book=APART), ("ranks", [None, 0, None]))
        same(self, swallowed(waiting=[1], book=APART), [])
        same(self, staff(waiting=[1], book=APART), [(1,)])
        same(self, stuck(waiting=[1], book=APART), None)

    def test_errors(self):
        for function in ALL:
            samples.check_errors(self, function, [MAIL, [0, 2]],
                                 [(NoBook, samples.WRONG_BOOKS), (NoWaiting, samples.WRONG_WAITING)])
            with self.assertRaises(NoWaiting):
                function(LEAST, [1])
            with self.assertRaises(NoWaiting):
                function(RING, [10])

    def test_nothing_changes(self):
        for function in ALL:
            for book in [MAIL, APART, STAIRS, RING, LINE, LOOP]:
                for waiting in [[], list(range(book[0])), [0, 0], [book[0] - 1]]:
                    samples.check_stays(self, function, [book, waiting])

    def test_any_order_and_several_times(self):
        random = Random(50)
        for book in samples.many_books(100, 6, 6):
            waiting = some_waiting(random, book)
            for function in ALL:
                wanted = function(book, sorted(set(waiting)))
                same(self, function(book, waiting), wanted)
                same(self, function(book, tuple(waiting) * 3), wanted)


class Settles(unittest.TestCase):
    def check_round(self, book, waiting, found):
        """The row leads to a wait, the ring from it through waiting back to it."""
        word, row, ring = found
        same(self, [word, type(row), type(ring)], ["round", list, list])
        self.assertLessEqual(max(len(row), len(ring)), 20)
        wait = led(book, 0, row)
        self.assertIn(wait, waiting)
        self.assertGreater(len(ring), 0)
        for place, d in enumerate(ring):
            self.assertEqual(book[1][d][0], "deed")
            self.assertIn(led(book, wait, ring[:place + 1]), waiting)
        self.assertEqual(led(book, wait, ring), wait)
        return wait

    def test_small_books(self):
        random = Random(51)
        count = {"dead": 0, "round": 0, "ranks": 0}
        for book in small_books():
            waiting = some_waiting(random, book)
            found, wanted = settles(book, waiting), samples.plain_settles(book, waiting)
            if wanted[0] == "round":
                self.assertIn(self.check_round(book, waiting, found), wanted[1])
            else:
                same(self, found, wanted)
            count[wanted[0]] += 1
        self.assertGreater(min(count.values()), 30)

    def test_large_books(self):
        random = Random(52)
        count = {"dead": 0, "round": 0, "ranks": 0}
        for book in samples.many_books(400, 10, 10) + [with_deeds(book) for book in samples.many_books(200, 10, 10)]:
            waiting = some_waiting(random, book)[:random.randrange(8)]
            found = settles(book, waiting)
            count[found[0]] += 1
            deeds = samples.deeds_in(book)
            if found[0] == "dead":
                wait = led(book, 0, found[1])
                self.assertIn(wait, waiting)
                self.assertEqual([d for d in deeds if led(book, wait, [d]) is not None], [])
            elif found[0] == "round":
                self.check_round(book, waiting, found)
            else:
                for s, rank in enumerate(found[1]):
                    ends = [led(book, s, [d]) for d in deeds]
                    lower = [found[1][end] for end in ends if end in waiting]
                    self.assertTrue(rank is None or rank == max([0] + [one + 1 for one in lower]))
        self.assertGreater(min(count.values()), 50)

    def test_dead(self):
        same(self, settles(LEAST, [0]), ("dead", []))
        same(self, settles(LINE, list(range(10))), ("dead", []))
        same(self, settles(LINE, [9, 4, 7]), ("dead", [9] * 4))
        # That a kind comes from outside does not help.
        same(self, settles(MAIL, [2]), ("dead", [2]))
        # Of two dead waits as far away, that of the lesser row; state 2 by 0 is ahead of state 1 by 1.
        turned = (3, (("out", (2, None, None)), ("out", (1, None, None)), ("deed", (0, None, None))))
        same(self, settles(turned, [1, 2]), ("dead", [0]))
        same(self, settles(turned, [1]), ("dead", [1]))
        # Dead is told ahead of what goes round, however far it is away.
        same(self, settles(turned, [0, 1]), ("dead", [1]))
        same(self, settles(turned, [0]), ("round", [], [2]))

    def test_states_that_nothing_leads_to(self):
        same(self, settles(APART, [1, 2]), ("ranks", [None, 0, None]))
        same(self, settles(APART, [2]), ("ranks", [None] * 3))
        # There deeds go round, but the talk never comes there.
        turns = (3, (("deed", (0, 2, 1)),))
        same(self, settles(turns, [1, 2]), ("ranks", [None] * 3))

    def test_round(self):
        same(self, settles(LOOP, [0]), ("round", [], [0]))
        turns = (10, (("deed", tuple(range(1, 10)) + (0,)),))
        found = settles(turns, list(range(10)))
        self.check_round(turns, list(range(10)), found)
        same(self, found[2], [0] * 10)
        # With one state that does not wait nothing goes round any more.
        same(self, settles(turns, list(range(9))), ("ranks", [8, 7, 6, 5, 4, 3, 2, 1, 0, None]))
        same(self, settles(turns, [9, 0, 1]), ("ranks", [1, 0] + [None] * 7 + [2]))
        # What comes from outside makes no ring.
        mixed = (2, (("deed", (1, None)), ("out", (None, 0)), ("deed", (None, 1))))
        same(self, settles(mixed, [0]), ("ranks", [0, None]))
        same(self, settles(mixed, [0, 1]), ("round", [0], [2]))
        same(self, settles((2, mixed[1][:2] + (("deed", (None, None)),)), [0]), ("ranks", [0, None]))

    def test_ranks(self):
        same(self, settles(STAIRS, list(range(1, 10))), ("ranks", [None, 8, 7, 6, 5, 4, 3, 2, 1, 0]))
        same(self, settles(MAIL, []), ("ranks", [None] * 3))
        same(self, settles(MAIL, ()), ("ranks", [None] * 3))
        same(self, settles(LEAST, []), ("ranks", [None]))
        # The longest way counts, not the shortest: 0 to 3 at once or through 1 and 2.
        ways = (5, (("deed", (3, 2, 3, 4, None)), ("deed", (1, 4, 4, 4, None)), ("out", (4,) * 5)))
        same(self, settles(ways, [0, 1, 2, 3]), ("ranks", [3, 2, 1, 0, None]))


class Swallowed(unittest.TestCase):
    def test_small_books(self):
        random = Random(53)
        count = 0
        for book in small_books():
            waiting = some_waiting(random, book)
            wanted = samples.plain_swallowed(book, waiting)
            same(self, swallowed(book, waiting), wanted)
            count += len(wanted)
        self.assertGreater(count, 50)

    def test_edges(self):
        same(self, swallowed(LEAST, []), [])
        same(self, swallowed(LOOP, [0]), [])
        same(self, swallowed(LOOP, []), [(1, [])])
        same(self, swallowed(MAIL, [1]), [])
        same(self, swallowed(MAIL, [0, 2]), [(0, [])])
        same(self, swallowed(LINE, list(range(10))), [(9, [9] * 9)])
        same(self, swallowed(LINE, list(range(1, 9))), [(9, [9] * 8)])
        same(self, swallowed(APART, [1]), [])
        same(self, swallowed(RING, list(range(10))), [])
        same(self, swallowed(RING, list(range(9))), [(k, [9 - k] if k < 9 else []) for k in [1, 3, 5, 7, 9]])

    def test_the_first_row(self):
        # The letter 3 cannot come in the states 1 and 2: row [0] leads to 2, row [1] to 1.
        turned = (3, (("deed", (2, None, None)), ("deed", (1, None, None)), ("out", (None, 0, 0)),
                      ("out", (1, None, None))))
        same(self, swallowed(turned, [0, 1, 2]), [(2, []), (3, [0])])

    def test_a_list_of_its_own_for_each_kind(self):
        twins = (2, (("deed", (1, 1)), ("out", (0, 1)), ("out", (0, 1)), ("out", (0, 1))))
        found = swallowed(twins, [0])
        same(self, found, [(1, [0]), (2, [0]), (3, [0])])
        found[0][1].append(5)
        same(self, found[1:], [(2, [0]), (3, [0])])


class Staff(unittest.TestCase):
    def test_small_books(self):
        random = Random(54)
        count = [0, 0]
        several = 0
        for book in small_books():
            waiting = some_waiting(random, book)
            wanted, kept = samples.plain_staff(book, waiting), samples.plain_stuck(book, waiting)
            same(self, staff(book, waiting), wanted)
            same(self, stuck(book, waiting), kept)
            self.assertEqual(kept is None, wanted != [])
            count[kept is None] += 1
            several += len(wanted) > 1
        self.assertGreater(min(count), 40)
        self.assertGreater(several, 10)

    def test_large_books(self):
        random = Random(55)
        for book in samples.many_books(100, 10, 10):
            waiting = some_waiting(random, book)
            found, kept = staff(book, waiting), stuck(book, waiting)
            self.assertEqual(kept is None, found != [])
            self.assertEqual(found, sorted(found, key=lambda deeds: (len(deeds), deeds)))
            if kept is not None:
                self.assertIn(led(book, 0, kept), waiting)

    def test_edges(self):
        for book in [LEAST, MAIL, RING, LINE]:
            same(self, staff(book, []), [()])
            same(self, stuck(book, ()), None)
            # Where each state waits, nothing leads out of waiting.
            same(self, staff(book, list(range(book[0]))), [])
            same(self, stuck(book, list(range(book[0]))), [])
        # No wait is left without a deed.
        same(self, staff(LINE, [5]), [])
        same(self, stuck(LINE, [8, 5]), [9] * 5)
        # Nothing leads to state 2, so it is no wait.
        same(self, [staff(APART, [2]), stuck(APART, [2])], [[()], None])
        same(self, [staff(APART, [1, 2]), stuck(APART, [1, 2])], [[(1,)], None])

    def test_ten_states_and_kinds(self):
        deeds = tuple(("deed", tuple(9 if s == k else s for s in range(10))) for k in range(9))
        # Each of nine deeds leaves one wait; what comes leads to the waits.
        nine = (10, deeds + (("out", tuple((s + 1) % 10 for s in range(10))),))
        same(self, staff(nine, list(range(9))), [tuple(range(9))])
        same(self, staff(nine, [0, 4, 8]), [(0, 4, 8)])
        same(self, stuck(nine, list(range(9))), None)
        same(self, stuck((10, deeds[:4] + nine[1][9:]), list(range(9))), [4] * 4)
        same(self, staff(RING, list(range(9))), [])
        same(self, stuck(RING, list(range(9))), [])
        same(self, staff(RING, [2, 4, 6, 8, 0]), [])
        same(self, staff(RING, [1, 3, 5, 7]), [(2,), (4,), (6,), (8,)])

    def test_the_whole_row_is_of_these_deeds(self):
        # From 1 deed 1 leads to 2, and from there deed 2 out of waiting: neither alone is enough, also by way of 0.
        pair = (3, (("out", (1, None, 1)), ("deed", (None, 2, None)), ("deed", (None, None, 0)), ("out", (None, 0, 0))))
        same(self, staff(pair, [1, 2]), [(1, 2)])
        same(self, staff(pair, [2]), [(2,)])
        same(self, staff(pair, [1]), [(1,)])

    def test_order_of_tuples(self):
        ways = (3, (("deed", (1, None, None)), ("deed", (None, 2, None)), ("deed", (2, 2, None)),
                    ("deed", (2, None, None))))
        same(self, staff(ways, [0, 1]), [(2,), (0, 1), (1, 3)])

    def test_the_first_row_to_a_wait_that_is_not_left(self):
        turned = (4, (("deed", (2, None, None, None)), ("out", (1, None, None, 1)), ("deed", (3, None, None, None))))
        same(self, stuck(turned, [1, 2]), [0])
        same(self, stuck(turned, [1]), [1])
        same(self, stuck(turned, [0, 1]), [1])
        same(self, stuck(turned, [0, 3]), [2])


if __name__ == "__main__":
    unittest.main()
