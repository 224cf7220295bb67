"""Tests of oldsights.books (points 2 to 8)."""

import inspect
import unittest
from copy import deepcopy
from random import Random

from oldsights import books
from oldsights.books import accepts, come_to, is_book, is_marks, is_row, led, overlooks
from oldsights.errors import NoBook, NoDeed, NoMarks, NoRow, NoState, NoTrial
from tests import samples
from tests.samples import BIG, LEAST, LINE, LOOP, MAIL, MAIL_NONE, MAIL_PAGE, RING, lists_in, same


class Examples(unittest.TestCase):
    def test_of_the_document(self):
        found = [is_book(MAIL), led(MAIL, 0, [0, 1, 2]), led(MAIL, 0, [1]), come_to(MAIL, 0)]
        same(self, found, [True, 2, None, [(0, []), (1, [0]), (2, [2])]])
        found = [overlooks(MAIL, MAIL_PAGE, 1, [0], [0]), accepts(MAIL, ((), (1,), ()), 1, [0], [0]),
                 overlooks(MAIL, MAIL_PAGE, 1, [0], [])]
        same(self, found, [True, True, False])


class Interface(unittest.TestCase):
    def test_names_of_arguments(self):
        wanted = {
            "is_book": ["thing"], "is_row": ["book", "thing"], "led": ["book", "state", "row"],
            "come_to": ["book", "state"], "is_marks": ["book", "thing"],
            "accepts": ["book", "checks", "d", "ahead", "between"],
            "overlooks": ["book", "page", "d", "ahead", "between"],
        }
        for name, arguments in wanted.items():
            function = getattr(books, name)
            self.assertEqual(function.__module__, "oldsights.books")
            self.assertEqual(list(inspect.signature(function).parameters), arguments)

    def test_by_name(self):
        same(self, is_book(thing=MAIL), True)
        same(self, is_row(thing=[0], book=MAIL), True)
        same(self, led(row=[0], state=0, book=MAIL), 1)
        same(self, come_to(state=0, book=LEAST), [(0, [])])
        same(self, is_marks(thing=MAIL_PAGE, book=MAIL), True)
        same(self, accepts(between=[0], ahead=[0], d=1, checks=MAIL_NONE, book=MAIL), True)
        same(self, overlooks(between=[0], ahead=[0], d=1, page=MAIL_PAGE, book=MAIL), True)


class IsBook(unittest.TestCase):
    def test_books(self):
        for book in [MAIL, LEAST, LOOP, RING, LINE, (10, (("out", (9,) * 10),)), (1, (("deed", (0,)),) * 10)]:
            same(self, is_book(book), True)
        for book in samples.many_books(100, 10, 10):
            same(self, is_book(book), True)

    def test_others(self):
        for thing in samples.WRONG_BOOKS:
            same(self, is_book(thing), False)

    def test_a_book_with_truth_in_the_place_of_a_number(self):
        self.assertEqual((1, (("out", (0,)),)), (True, (("out", (False,)),)))
        same(self, is_book((1, (("out", (0,)),))), True)
        same(self, is_book((True, (("out", (0,)),))), False)
        same(self, is_book((1, (("out", (False,)),))), False)


class IsRow(unittest.TestCase):
    def test_rows(self):
        for row in [[], (), [0], (2,), [0, 1, 2], (2, 2, 1), [1] * 60, tuple([2] * 3999)]:
            same(self, is_row(MAIL, row), True)
        same(self, is_row(RING, list(range(10))), True)
        same(self, is_row(LEAST, [0] * 60), True)

    def test_others(self):
        for thing in samples.WRONG_ROWS:
            same(self, is_row(MAIL, thing), False)
        same(self, is_row(LEAST, [1]), False)
        same(self, is_row(RING, [10]), False)

    def test_no_book(self):
        for book in samples.WRONG_BOOKS:
            with self.assertRaises(NoBook):
                is_row(book, [])


class IsMarks(unittest.TestCase):
    def test_marks(self):
        for marks in [MAIL_NONE, MAIL_PAGE, ((), (0, 1, 2), (0, 1, 2)), ((), (2,), (0, 2))]:
            same(self, is_marks(MAIL, marks), True)
        same(self, is_marks(LEAST, ((0,),)), True)
        full = tuple(tuple(range(10)) if k % 2 == 0 else () for k in range(10))
        same(self, is_marks(RING, full), True)
        same(self, is_marks(RING, full[1:] + full[:1]), False)

    def test_others(self):
        for thing in samples.WRONG_MARKS:
            same(self, is_marks(MAIL, thing), False)
        same(self, is_marks(LEAST, ((1,),)), False)
        same(self, is_marks(LEAST, ()), False)

    def test_no_book(self):
        for book in samples.WRONG_BOOKS:
            with self.assertRaises(NoBook):
                is_marks(book, ())


class Led(unittest.TestCase):
    def test_rows(self):
        same(self, led(MAIL, 2, []), 2)
        same(self, led(MAIL, 2, ()), 2)
        same(self, led(MAIL, 1, (1,)), 0)
        same(self, led(MAIL, 0, [0, 1, 1, 0]), None)
        same(self, led(MAIL, 2, [2, 0]), None)
        same(self, led(LEAST, 0, [0]), None)
        same(self, led(LINE, 0, [9] * 9), 9)
        same(self, led(LINE, 0, [9] * 10), None)
        same(self, led(RING, 3, [9] * 60), (3 + 9 * 60) % 10)
        same(self, led(RING, 9, tuple(range(10)) * 6), (9 + 45 * 6) % 10)
        same(self, led(MAIL, 0, [0] * 3999), 1)

    def test_any_book(self):
        random = Random(5)
        for book in samples.many_books(200, 10, 10):
            for state in range(book[0]):
                row = [random.randrange(len(book[1])) for _ in range(random.randrange(6))]
                same(self, led(book, state, row), samples.plain_led(book, state, row))
                same(self, led(book, state, tuple(row)), samples.plain_led(book, state, row))

    def test_errors(self):
        for book in samples.WRONG_BOOKS:
            with self.assertRaises(NoBook):
                led(book, True, None)
        for state in samples.WRONG_STATES:
            with self.assertRaises(NoState):
                led(MAIL, state, None)
        for row in samples.WRONG_ROWS:
            with self.assertRaises(NoRow):
                led(MAIL, 0, row)


class ComeTo(unittest.TestCase):
    def test_lesser_row_of_the_shortest(self):
        twins = (3, (("out", (1, 2, None)), ("deed", (1, 2, None)), ("out", (2, None, 2))))
        same(self, come_to(twins, 0), [(0, []), (1, [0]), (2, [2])])
        # Two ways of two kinds: [0, 2] is lesser than [1, 0], which ends in the kind that is tried first.
        fork = (4, (("out", (1, None, 3, None)), ("out", (2, None, None, None)), ("deed", (None, 3, None, None))))
        same(self, come_to(fork, 0), [(0, []), (1, [0]), (2, [1]), (3, [0, 2])])
        # States 2 and 1 are found in this order: the row through 2 is the lesser one.
        turned = (4, (("out", (2, 3, None, None)), ("out", (1, None, 3, None))))
        same(self, come_to(turned, 0), [(0, []), (1, [1]), (2, [0]), (3, [0, 1])])

    def test_edges(self):
        same(self, come_to(LEAST, 0), [(0, [])])
        same(self, come_to(LOOP, 0), [(0, [])])
        same(self, come_to(MAIL, 2), [(0, [0, 1]), (1, [0]), (2, [])])
        same(self, come_to(LINE, 0), [(s, [9] * s) for s in range(10)])
        same(self, come_to(LINE, 9), [(9, [])])
        same(self, come_to(RING, 7), [(s, [(s - 7) % 10] if s != 7 else []) for s in range(10)])

    def test_any_book(self):
        for book in samples.many_books(150):
            for state in range(book[0]):
                same(self, come_to(book, state), samples.plain_come_to(book, state))

    def test_lists_belong_to_the_caller(self):
        found = come_to(RING, 0)
        lists = lists_in(found)
        self.assertEqual(len(lists), 11)
        self.assertEqual(len({id(one) for one in lists}), 11)
        for one in lists:
            one.append(5)
        same(self, come_to(RING, 0), [(s, [s] if s else []) for s in range(10)])

    def test_errors(self):
        for book in samples.WRONG_BOOKS:
            with self.assertRaises(NoBook):
                come_to(book, True)
        for state in samples.WRONG_STATES:
            with self.assertRaises(NoState):
                come_to(MAIL, state)
        with self.assertRaises(NoState):
            come_to(LEAST, 1)


class Trials(unittest.TestCase):
    def test_only_what_is_between_counts(self):
        checks = ((), (0,), ())
        same(self, accepts(MAIL, checks, 1, [0], []), True)
        same(self, accepts(MAIL, checks, 1, [0, 0], (2, 0)), False)
        same(self, accepts(MAIL, ((), (1,), ()), 1, [0], (2, 0)), True)
        same(self, overlooks(MAIL, ((), (2,), ()), 1, [0], (2, 0)), True)
        same(self, overlooks(MAIL, ((), (1,), (0, 1, 2)), 1, (0,), (2, 0)), False)
        same(self, accepts(LOOP, ((0, 1), ()), 0, [1, 0, 1], []), True)
        same(self, overlooks(LOOP, ((0,), ()), 0, [], [1, 1, 0]), True)

    def test_the_marks_of_the_deed_alone_count(self):
        same(self, accepts(MAIL, ((), (0, 1, 2), ()), 2, [], [0]), True)
        same(self, overlooks(MAIL, ((), (0, 1, 2), ()), 2, [], [0]), False)

    def test_long_rows(self):
        same(self, accepts(RING, ((1,),) + ((),) * 9, 0, [1] * 60, [3] * 60), True)
        same(self, accepts(RING, ((1,),) + ((),) * 9, 0, [1] * 60, [3] * 59 + [1]), False)

    def test_any_book(self):
        random = Random(6)
        count = 0
        for book in samples.many_books(300):
            page = samples.some_marks(random, book)
            for d in [k for k, kind in enumerate(book[1]) if kind[0] == "deed"]:
                ahead = [random.randrange(len(book[1])) for _ in range(random.randrange(4))]
                between = tuple(random.randrange(len(book[1])) for _ in range(random.randrange(4)))
                if self.is_trial(book, d, ahead, between):
                    count += 1
                    found = any(k in page[d] for k in between)
                    same(self, overlooks(book, page, d, ahead, between), found)
                    same(self, accepts(book, page, d, ahead, between), not found)
                else:
                    with self.assertRaises(NoTrial):
                        accepts(book, page, d, ahead, between)
                    with self.assertRaises(NoTrial):
                        overlooks(book, page, d, ahead, between)
        self.assertGreater(count, 30)

    def is_trial(self, book, d, ahead, between):
        steps = book[1][d][1]
        looked = samples.plain_led(book, 0, ahead)
        done = None if looked is None else samples.plain_led(book, looked, between)
        return done is not None and steps[looked] is not None and steps[done] is not None

    def test_no_trial(self):
        wrong = [([], []), ([1], []), ([0, 1], [0]), ([0], [1]), ([0], [2]), ([0], [2, 2]), ([2, 2], [0])]
        wrong += [(row, []) for row in samples.WRONG_ROWS] + [([0], row) for row in samples.WRONG_ROWS]
        for ahead, between in wrong:
            for function in [accepts, overlooks]:
                with self.assertRaises(NoTrial):
                    function(MAIL, MAIL_PAGE, 1, ahead, between)

    def test_no_row_does_not_lead_beyond_the_book(self):
        with self.assertRaises(NoTrial):
            accepts(LEAST, ((),), 0, [], [])
        with self.assertRaises(NoTrial):
            accepts(MAIL, MAIL_NONE, 1, [0], [1, BIG])

    def test_the_earliest_error(self):
        for function in [accepts, overlooks]:
            for book in samples.WRONG_BOOKS:
                with self.assertRaises(NoBook):
                    function(book, None, True, 0, 0)
            for marks in samples.WRONG_MARKS:
                with self.assertRaises(NoMarks):
                    function(MAIL, marks, True, 0, 0)
            for d in samples.WRONG_DEEDS:
                with self.assertRaises(NoDeed):
                    function(MAIL, MAIL_PAGE, d, 0, 0)


class NothingChanges(unittest.TestCase):
    def test_arguments_stay(self):
        ahead, between = [0, 0], [0, 2]
        before = deepcopy([ahead, between])
        accepts(MAIL, MAIL_NONE, 2, ahead, [0])
        overlooks(MAIL, MAIL_PAGE, 2, ahead, [0])
        led(MAIL, 0, between)
        is_row(MAIL, between)
        same(self, [ahead, between], before)

    def test_results_stay(self):
        for _ in range(3):
            row = [0, 1, 2]
            same(self, led(MAIL, 0, row), 2)
            row.append(1)
            same(self, led(MAIL, 0, row), None)
            same(self, led(MAIL, 0, tuple(row)), None)
            same(self, is_row(MAIL, [True]), False)
            same(self, is_row(MAIL, [1]), True)
            same(self, come_to(MAIL, 0), [(0, []), (1, [0]), (2, [2])])

    def test_what_was_returned_may_be_passed(self):
        for state, row in come_to(RING, 4):
            same(self, led(RING, 4, row), state)
            same(self, led(RING, 4, row * 400), (4 + 400 * sum(row)) % 10)


if __name__ == "__main__":
    unittest.main()
