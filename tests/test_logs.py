"""Tests of oldsights.logs (points 2 to 4, 7 and 9)."""

import inspect
import unittest
from copy import deepcopy
from random import Random

from oldsights import logs
from oldsights.errors import NoBook, NoLog, NoMarks
from oldsights.logs import faults_in, read_log
from tests import samples
from tests.samples import LEAST, LINE, LOOP, MAIL, MAIL_NONE, MAIL_PAGE, RING, same

FULL = ((0, 1), ())
EMPTY = ((), ())


class Examples(unittest.TestCase):
    def test_of_the_document(self):
        log = [("come", 0), ("look", 5, 0), ("look", 7, 0), ("do", 5, 1), ("come", 0), ("do", 7, 1)]
        found = [read_log(MAIL, MAIL_NONE, log), faults_in(MAIL, MAIL_PAGE, MAIL_NONE, log),
                 read_log(MAIL, ((), (1,), ()), log)]
        same(self, found, [[1, 1, 1, True, 1, True], [5], [1, 1, 1, True, 1, False]])
        log = [("come", 0), ("come", 0), ("look", 1, 1), ("do", 1, 1)]
        same(self, read_log(MAIL, ((), (0,), ()), log), [1, 1, 1, False])


class Interface(unittest.TestCase):
    def test_names_of_arguments(self):
        wanted = {"read_log": ["book", "checks", "log"], "faults_in": ["book", "page", "checks", "log"]}
        for name, arguments in wanted.items():
            function = getattr(logs, name)
            self.assertEqual(function.__module__, "oldsights.logs")
            self.assertEqual(list(inspect.signature(function).parameters), arguments)

    def test_by_name(self):
        log = [("come", 0), ("look", 5, 1)]
        same(self, read_log(log=log, checks=MAIL_NONE, book=MAIL), [1, 0])
        same(self, faults_in(log=log, checks=MAIL_NONE, page=MAIL_PAGE, book=MAIL), [])


class Entries(unittest.TestCase):
    def test_empty_log(self):
        for log in [[], ()]:
            same(self, read_log(LEAST, ((),), log), [])
            same(self, faults_in(LEAST, ((),), ((),), log), [])

    def test_come(self):
        same(self, read_log(LINE, ((),) * 10, [("come", 9)] * 11), [1, 2, 3, 4, 5, 6, 7, 8, 9, None, None])

    def test_what_cannot_come_is_no_happening(self):
        once = (2, (("out", (1, None)), ("deed", (1, 1))))
        log = [("look", 0, 0), ("come", 0), ("look", 3, 0), ("come", 0), ("come", 0), ("look", 4, 1), ("do", 3, 1)]
        same(self, read_log(once, ((), (0,)), log), [0, 1, 1, None, None, 0, True])

    def test_late_looks(self):
        log = [("look", 0, 1000)] + [("come", 9)] * 9 + [("look", 99, late) for late in [0, 1, 4, 8, 9, 10, 11, 1000]]
        found = read_log(LINE, ((),) * 10, log)
        same(self, found[10:], [9, 8, 5, 1, 0, 0, 0, 0])
        same(self, found[0], 0)

    def test_late_tells_happenings_not_entries(self):
        log = [("come", 0), ("look", 1, 0), ("look", 2, 0), ("come", 0), ("do", 3, 1), ("look", 1, 1), ("look", 2, 2)]
        same(self, read_log(MAIL, MAIL_NONE, log), [1, 1, 1, 1, False, 1, 0])

    def test_without_a_sight(self):
        log = [("come", 0), ("look", 0, 0), ("do", 99, 1), ("do", 1, 1), ("do", 0, 1)]
        same(self, read_log(MAIL, MAIL_NONE, log), [1, 1, False, False, True])

    def test_a_deed_must_be_possible_in_the_sight_and_now(self):
        # In the beginning 1 cannot come, so who saw only that cannot do it.
        same(self, read_log(MAIL, MAIL_NONE, [("look", 1, 0), ("come", 0), ("do", 1, 1)]), [0, 1, False])
        log = [("come", 0), ("look", 1, 0), ("look", 2, 0), ("do", 2, 2), ("do", 1, 1), ("come", 0), ("do", 1, 1)]
        same(self, read_log(MAIL, MAIL_NONE, log), [1, 1, 1, True, False, 1, True])

    def test_a_refused_deed_changes_nothing(self):
        log = [("look", 0, 0), ("come", 1), ("do", 0, 0), ("do", 0, 0), ("look", 0, 0), ("do", 0, 0)]
        same(self, read_log(LOOP, ((1,), ()), log), [0, 0, False, False, 0, True])
        # It is no happening, so a look that is late by one is right before the letter.
        same(self, read_log(LOOP, ((1,), ()), log[:4] + [("look", 0, 1), ("do", 0, 0)])[-1], False)

    def test_an_accepted_deed_is_a_look(self):
        # Twice by one helper with no look between: neither what came ahead nor the deed itself counts then.
        log = [("look", 0, 0), ("do", 0, 0), ("do", 0, 0), ("come", 1), ("do", 0, 0)]
        same(self, read_log(LOOP, FULL, log), [0, True, True, 0, False])
        log = [("look", 0, 0), ("come", 1), ("do", 0, 0), ("do", 0, 0)]
        same(self, faults_in(LOOP, FULL, EMPTY, log), [2])
        same(self, read_log(LOOP, ((0,), ()), log), [0, 0, True, True])

    def test_other_helpers_keep_their_sights(self):
        log = [("look", 0, 0), ("look", 99, 0), ("do", 0, 0), ("do", 99, 0)]
        same(self, read_log(LOOP, ((0,), ()), log), [0, 0, True, False])
        same(self, faults_in(LOOP, ((0,), ()), EMPTY, log), [3])

    def test_a_look_takes_the_place_of_the_sight(self):
        log = [("come", 1), ("look", 0, 0), ("look", 0, 1), ("do", 0, 0)]
        same(self, read_log(LOOP, FULL, log), [0, 0, 0, False])
        log = [("come", 1), ("look", 0, 1), ("look", 0, 0), ("do", 0, 0)]
        same(self, read_log(LOOP, FULL, log), [0, 0, 0, True])

    def test_the_happenings_behind_the_moment_count(self):
        log = [("come", 1), ("come", 1), ("look", 0, 1), ("do", 0, 0)]
        same(self, read_log(LOOP, FULL, log)[-1], False)
        same(self, faults_in(LOOP, FULL, EMPTY, log), [3])

    def test_the_deed_itself_is_no_fault(self):
        same(self, faults_in(LOOP, ((0,), ()), EMPTY, [("look", 0, 0), ("do", 0, 0)]), [])

    def test_a_refused_deed_is_no_fault(self):
        log = [("look", 0, 0), ("come", 1), ("do", 0, 0)]
        same(self, faults_in(LOOP, FULL, FULL, log), [])
        same(self, faults_in(LOOP, FULL, ((0,), ()), log), [2])
        same(self, faults_in(LOOP, FULL, EMPTY, log[1:]), [])

    def test_the_marks_of_the_deed_alone_count(self):
        log = [("look", 0, 0), ("come", 0), ("do", 0, 2)]
        same(self, read_log(MAIL, ((), (0, 1, 2), ()), log), [0, 1, True])
        same(self, faults_in(MAIL, ((), (0, 1, 2), ()), MAIL_NONE, log), [])


class Sizes(unittest.TestCase):
    def test_any_log(self):
        random = Random(9)
        faults = 0
        for book in samples.many_books(400):
            page, checks = samples.some_marks(random, book), samples.some_marks(random, book)
            log = samples.some_log(random, book, random.randrange(40))
            told, places = samples.plain_reading(book, page, checks, log)
            same(self, read_log(book, checks, log), told)
            same(self, faults_in(book, page, checks, log), places)
            same(self, read_log(book, checks, tuple(log)), told)
            same(self, faults_in(book, page, checks, tuple(log)), places)
            faults += len(places)
        self.assertGreater(faults, 50)

    def test_long_logs(self):
        random = Random(10)
        for book in [RING, LINE, MAIL, LOOP]:
            for _ in range(10):
                page, checks = samples.some_marks(random, book), samples.some_marks(random, book)
                log = samples.some_log(random, book, 200)
                told, places = samples.plain_reading(book, page, checks, log)
                same(self, read_log(book, checks, log), told)
                same(self, faults_in(book, page, checks, log), places)

    def test_a_hundred_helpers(self):
        log = [("look", h, 0) for h in range(100)] + [("do", h, 0) for h in range(100)]
        same(self, read_log(LOOP, EMPTY, log), [0] * 100 + [True] * 100)
        same(self, read_log(LOOP, FULL, log), [0] * 100 + [True] + [False] * 99)
        same(self, faults_in(LOOP, FULL, EMPTY, log), list(range(101, 200)))


class Errors(unittest.TestCase):
    def test_no_book(self):
        for book in samples.WRONG_BOOKS:
            with self.assertRaises(NoBook):
                read_log(book, None, None)
            with self.assertRaises(NoBook):
                faults_in(book, None, None, None)

    def test_no_marks(self):
        for marks in samples.WRONG_MARKS:
            with self.assertRaises(NoMarks):
                read_log(MAIL, marks, None)
            with self.assertRaises(NoMarks):
                faults_in(MAIL, marks, MAIL_NONE, None)
            with self.assertRaises(NoMarks):
                faults_in(MAIL, MAIL_PAGE, marks, None)

    def test_no_log(self):
        for log in samples.WRONG_LOGS:
            with self.assertRaises(NoLog):
                read_log(MAIL, MAIL_NONE, log)
            with self.assertRaises(NoLog):
                faults_in(MAIL, MAIL_PAGE, MAIL_NONE, log)

    def test_kinds_of_the_book(self):
        with self.assertRaises(NoLog):
            read_log(LOOP, EMPTY, [("come", 0)])
        with self.assertRaises(NoLog):
            read_log(LOOP, EMPTY, [("do", 0, 1)])
        with self.assertRaises(NoLog):
            read_log(LEAST, ((),), [("come", 0)])


class NothingChanges(unittest.TestCase):
    def test_arguments_and_results(self):
        log = [("come", 0), ("look", 5, 0), ("come", 0), ("do", 5, 1)]
        before = deepcopy(log)
        for _ in range(2):
            told = read_log(MAIL, MAIL_NONE, log)
            places = faults_in(MAIL, MAIL_PAGE, MAIL_NONE, log)
            same(self, [told, places, log], [[1, 1, 1, True], [3], before])
            self.assertIsNot(told, read_log(MAIL, MAIL_NONE, log))
            told.append(5)
            places.append(5)
        log.append(("come", 0))
        same(self, told, [1, 1, 1, True, 5])


if __name__ == "__main__":
    unittest.main()
