"""Tests of oldsights.faults (points 2 to 4, 7, 10 and 11)."""

import unittest
from itertools import product
from random import Random

from oldsights.books import accepts, overlooks
from oldsights.errors import NoBook, NoDeed, NoMarks, NoTrial
from oldsights.faults import fault, is_table, log_of
from oldsights.logs import faults_in, is_entry, read_log
from tests import samples
from tests.samples import BIG, LEAST, LINE, LOOP, MAIL, MAIL_NONE, MAIL_PAGE, NO_NUMBERS, RING, nested, same

EXAMPLES = """
>>> from oldsights.faults import fault, is_table, log_of
>>> mail = (3, (("out", (1, 1, 1)), ("deed", (None, 0, None)), ("deed", (2, 2, None))))
>>> page = ((), (0, 1), (0, 1))
>>> [fault(mail, page, ((), (1,), ()), 1), fault(mail, page, ((), (0,), ()), 1)[0]]
[('fault', [0], [0]), 'none']
>>> is_table(mail, page, ((), (0,), ()), 1, ([0, 1, 2], [1, 2], [0, 2]))
True
>>> log_of(mail, 1, [0], [0])
[('come', 0), ('look', 0, 0), ('come', 0), ('do', 0, 1)]
"""
CHECKS = ((), (0,), ())
TABLE = ([0, 1, 2], [1, 2], [0, 2])
MARKS_ERRORS = [(NoBook, samples.WRONG_BOOKS), (NoMarks, samples.WRONG_MARKS), (NoMarks, samples.WRONG_MARKS),
                (NoDeed, samples.WRONG_DEEDS)]


class Interface(unittest.TestCase):
    def test_examples_of_the_document(self):
        samples.check_examples(self, EXAMPLES)

    def test_names_of_arguments(self):
        samples.check_interface(self, "oldsights.faults", {
            "fault": ["book", "page", "checks", "d"],
            "is_table": ["book", "page", "checks", "d", "thing"],
            "log_of": ["book", "d", "ahead", "between"],
        })

    def test_by_name(self):
        same(self, fault(d=1, checks=((), (1,), ()), page=MAIL_PAGE, book=MAIL), ("fault", [0], [0]))
        same(self, is_table(thing=TABLE, d=1, checks=CHECKS, page=MAIL_PAGE, book=MAIL), True)
        same(self, log_of(between=[], ahead=[0], d=1, book=MAIL), [("come", 0), ("look", 0, 0), ("do", 0, 1)])


class Faults(unittest.TestCase):
    def check(self, book, page, checks, d, trials):
        """Whether there is a fault, and that what is told of it is right."""
        told = fault(book, page, checks, d)
        fewest = samples.plain_fault(trials, page[d], checks[d])
        self.assertIs(type(told), tuple)
        if fewest is None:
            word, table = told
            same(self, word, "none")
            self.assertEqual([type(table)] + [type(states) for states in table], [tuple, list, list, list])
            self.assertTrue(samples.plain_is_table(book, page, checks, d, table))
            same(self, is_table(book, page, checks, d, table), True)
            return False
        word, ahead, between = told
        same(self, [word, type(ahead), type(between)], ["fault", list, list])
        self.assertTrue(accepts(book, checks, d, ahead, between))
        self.assertTrue(overlooks(book, page, d, ahead, between))
        self.assertEqual(len(ahead) + len(between), fewest)
        log = log_of(book, d, ahead, between)
        self.assertEqual(faults_in(book, page, checks, log)[-1:], [len(log) - 1])
        return True

    def test_small_books(self):
        random = Random(30)
        count = [0, 0]
        for book in samples.many_books(60, 3, 3) + samples.many_books(60, 2, 4):
            for d in samples.deeds_in(book):
                trials = samples.short_trials(book, d)
                self.assertEqual(trials, {since: length for since, length in samples.all_trials(book, d).items()
                                          if length <= 3 * book[0] - 2})
                for _ in range(6):
                    page, checks = samples.some_marks(random, book), samples.some_marks(random, book)
                    count[self.check(book, page, checks, d, trials)] += 1
        self.assertGreater(min(count), 100)

    def test_large_books(self):
        random = Random(31)
        count = [0, 0]
        for book in samples.many_books(40, 10, 10) + [RING, LINE, MAIL, LOOP, LEAST]:
            for d in samples.deeds_in(book)[:2]:
                trials = samples.all_trials(book, d)
                for _ in range(6):
                    page, checks = samples.some_marks(random, book), samples.some_marks(random, book)
                    count[self.check(book, page, checks, d, trials)] += 1
        self.assertGreater(min(count), 50)

    def test_edges(self):
        # The only deed can come in no state, so there is no trial at all.
        same(self, fault(LEAST, ((0,),), ((),), 0), ("none", ([0], [], [])))
        same(self, fault(LOOP, ((0, 1), ()), ((), ()), 0)[0], "fault")
        same(self, fault(LOOP, ((1,), ()), ((0,), ()), 0), ("fault", [], [1]))
        same(self, fault(LOOP, ((1,), ()), ((1,), ()), 0), ("none", ([0], [0], [])))
        same(self, fault(LOOP, ((), ()), ((), ()), 0)[0], "none")
        full = ((0, 1), ())
        same(self, fault(LOOP, full, full, 0)[0], "none")
        # Only in state 2 can it come, which leads nowhere else: what came ahead of the look is not overlooked.
        late = (3, (("out", (1, 2, None)), ("deed", (None, None, 2))))
        same(self, fault(late, ((), (0,)), ((), ()), 1), ("none", ([0, 1, 2], [2], [])))
        same(self, fault(late, ((), (0, 1)), ((), ()), 1), ("fault", [0, 0], [1]))

    def test_states_that_nothing_leads_to(self):
        # In state 1 the deed could come twice with a letter between, but nothing leads there.
        apart = (2, (("out", (None, 1)), ("deed", (0, 1))))
        same(self, fault(apart, ((), (0,)), ((), ()), 1), ("none", ([0], [0], [])))

    def test_long_ways(self):
        # The deed can come in the states 0 and 9 alone, the letter only from 4 to 5, all others by another deed.
        steps = tuple(s + 1 if s < 9 and s != 4 else None for s in range(10))
        letter = tuple(5 if s == 4 else None for s in range(10))
        way = (10, (("deed", (0,) + (None,) * 8 + (9,)), ("deed", steps), ("out", letter)))
        told = fault(way, ((2,), (), ()), ((0,), (), ()), 0)
        same(self, told, ("fault", [], [1, 1, 1, 1, 2, 1, 1, 1, 1]))
        same(self, fault(way, ((2,), (), ()), ((1,), (), ()), 0)[0], "none")

    def test_the_look_where_it_is_shortest(self):
        # From state 1, to which only kind 2 leads, one letter is enough; from state 0 it takes three kinds.
        two = (5, (("deed", (0, 1, None, None, 4)), ("out", (2, 4, None, None, None)),
                   ("out", (1, None, 3, None, None)), ("out", (None, None, None, 4, None))))
        page = ((1,), (), (), ())
        same(self, fault(two, page, ((), (), (), ()), 0), ("fault", [2], [1]))
        same(self, fault(two, page, ((0, 2), (), (), ()), 0), ("fault", [2], [1]))

    def test_marks_of_the_deed_alone_count(self):
        same(self, fault(MAIL, ((), (), (0, 1, 2)), MAIL_NONE, 1)[0], "none")
        same(self, fault(MAIL, MAIL_PAGE, ((), (), (0, 1, 2)), 1)[0], "fault")

    def test_errors(self):
        samples.check_errors(self, fault, [MAIL, MAIL_PAGE, CHECKS, 1], MARKS_ERRORS)

    def test_nothing_changes(self):
        for book, page, checks, d in [(MAIL, MAIL_PAGE, MAIL_NONE, 1), (MAIL, MAIL_PAGE, CHECKS, 1),
                                      (LEAST, ((0,),), ((),), 0), (RING, ((1,),) + ((),) * 9, ((),) * 10, 0)]:
            samples.check_stays(self, fault, [book, page, checks, d])


class Tables(unittest.TestCase):
    def test_all_things_of_small_books(self):
        random = Random(32)
        count = [0, 0]
        for book in samples.many_books(60, 3, 3):
            subsets = [list(one) for one in samples.all_tuples(range(book[0]))]
            for d in samples.deeds_in(book)[:1]:
                page, checks = samples.some_marks(random, book), samples.some_marks(random, book)
                found = []
                for table in product(subsets, repeat=3):
                    wanted = samples.plain_is_table(book, page, checks, d, table)
                    same(self, is_table(book, page, checks, d, table), wanted)
                    found.append(wanted)
                # There is a table just if there is no fault.
                self.assertEqual(any(found), fault(book, page, checks, d)[0] == "none")
                count[any(found)] += 1
        self.assertGreater(min(count), 4)

    def test_more_states(self):
        same(self, is_table(MAIL, MAIL_PAGE, CHECKS, 1, ([0, 1, 2], [0, 1, 2], [0, 2])), True)
        apart = (2, (("out", (None, 1)), ("deed", (0, None))))
        for seen, plain, marked in product([[0], [0, 1]], [[0], [0, 1]], [[], [1]]):
            same(self, is_table(apart, ((), (0,)), ((), (0,)), 1, (seen, plain, marked)), True)
        # With the letter marking, plain must not have state 1 unless marked has it, too.
        same(self, is_table(apart, ((), (0,)), ((), ()), 1, ([0], [0], [])), True)
        same(self, is_table(apart, ((), (0,)), ((), ()), 1, ([0], [0, 1], [])), False)
        same(self, is_table(apart, ((), (0,)), ((), ()), 1, ([0], [0, 1], [1])), True)

    def test_each_condition(self):
        wrong = [
            ([1, 2], [1, 2], [0, 2]), ([], [1, 2], [0, 2]), ([0, 1], [1, 2], [0, 2]), ([0], [], []), ([0, 2], [], []),
            ([0, 1, 2], [2], [0, 2]), ([0, 1, 2], [], []), ([0, 1, 2], [1], [0, 2]), ([0, 1, 2], [1, 2], [2]),
            ([0, 1, 2], [1, 2], []), ([0, 1, 2], [1, 2], [0]), ([0, 1, 2], [1, 2], [0, 1, 2]),
        ]
        for table in wrong:
            same(self, is_table(MAIL, MAIL_PAGE, CHECKS, 1, table), False)

    def test_ten_states_and_kinds(self):
        all_states = list(range(10))
        full = tuple(tuple(range(10)) if k % 2 == 0 else () for k in range(10))
        same(self, is_table(RING, full, full, 0, (all_states, list(all_states), [])), True)
        same(self, is_table(RING, full, full, 0, (all_states, list(all_states), [0])), False)
        same(self, is_table(RING, full, full, 0, (all_states, list(all_states[1:]), [])), False)
        same(self, is_table(LINE, ((),) * 10, ((),) * 10, 0, (all_states, [], all_states)), True)

    def test_other_things(self):
        wrong = NO_NUMBERS + [
            0, list(TABLE), TABLE[:2], TABLE + ([],), ([], TABLE[0], TABLE[1], TABLE[2]),
            ((0, 1, 2), [1, 2], [0, 2]), ([0, 1, 2], (1, 2), [0, 2]), ([0, 1, 2], [1, 2], (0, 2)),
            ([0, 1, 2], [1, 2], None), (None, [1, 2], [0, 2]), ([0, 1, 2], "12", [0, 2]), ("012", "12", "02"),
            ([0, 2, 1], [1, 2], [0, 2]), ([0, 1, 2], [2, 1], [0, 2]), ([0, 1, 2], [1, 2], [2, 0]),
            ([0, 0, 1, 2], [1, 2], [0, 2]), ([0, 1, 2], [1, 1, 2], [0, 2]), ([0, 1, 2], [1, 2], [0, 2, 2]),
            ([0, True, 2], [1, 2], [0, 2]), ([False, 1, 2], [1, 2], [0, 2]), ([0, 1, 2], [True, 2], [0, 2]),
            ([0, 1, 2], [1, 2], [False, 2]), ([0, 1, 2, 3], [1, 2], [0, 2]), ([-1, 0, 1, 2], [1, 2], [0, 2]),
            ([0, 1, 2], [1, 2, 3], [0, 2]), ([0, 1, 2], [1, 2], [0, 2, BIG]), ([0, 1, 2, None], [1, 2], [0, 2]),
            ([None, 0, 1, 2], [1, 2], [0, 2]), ([0, 1, 2], [1, "2"], [0, 2]), ([0, 1, 2], [1, 2], [0, [2]]),
            ([[0, 1, 2]], [[1, 2]], [[0, 2]]), nested(17, TABLE), (TABLE, TABLE, TABLE), ([0, 1, 2] * 1330, [], []),
            ("none", TABLE), fault(MAIL, MAIL_PAGE, CHECKS, 1), fault(MAIL, MAIL_PAGE, MAIL_NONE, 1),
        ]
        for thing in wrong:
            before = repr(thing)
            same(self, is_table(MAIL, MAIL_PAGE, CHECKS, 1, thing), False)
            self.assertEqual(repr(thing), before)

    def test_no_table_of_a_fault(self):
        same(self, is_table(MAIL, MAIL_PAGE, MAIL_NONE, 1, TABLE), False)
        same(self, is_table(MAIL, MAIL_PAGE, CHECKS, 2, TABLE), False)

    def test_errors(self):
        samples.check_errors(self, is_table, [MAIL, MAIL_PAGE, CHECKS, 1, TABLE], MARKS_ERRORS)
        samples.check_errors(self, is_table, [MAIL, MAIL_PAGE, CHECKS, 1, None], MARKS_ERRORS)

    def test_nothing_changes(self):
        samples.check_stays(self, is_table, [MAIL, MAIL_PAGE, CHECKS, 1, TABLE])


class Logs(unittest.TestCase):
    def test_entries(self):
        same(self, log_of(MAIL, 1, [2, 0], (0, 2, 0)), [
            ("look", 1, 0), ("do", 1, 2), ("come", 0), ("look", 0, 0), ("come", 0), ("look", 1, 0), ("do", 1, 2),
            ("come", 0), ("do", 0, 1),
        ])
        same(self, log_of(LOOP, 0, [], ()), [("look", 0, 0), ("do", 0, 0)])
        same(self, log_of(LOOP, 0, (0,), []), [("look", 1, 0), ("do", 1, 0), ("look", 0, 0), ("do", 0, 0)])
        same(self, log_of(LOOP, 0, [], [0]), [("look", 0, 0), ("look", 1, 0), ("do", 1, 0), ("do", 0, 0)])

    def test_read_back(self):
        random = Random(33)
        count = 0
        for book in samples.many_books(100, 4, 4) + samples.many_books(50, 10, 10) + [RING]:
            for d in samples.deeds_in(book):
                checks, page = samples.some_marks(random, book), samples.some_marks(random, book)
                for ahead, between in self.some_trials(random, book, d):
                    log = log_of(book, d, ahead, between)
                    self.assertTrue(all(is_entry(book, entry) for entry in log))
                    told = read_log(book, checks, log)
                    self.assertNotIn(None, told)
                    self.assertNotIn(False, [one for one in told[:-1] if isinstance(one, bool)])
                    same(self, told[-1], accepts(book, checks, d, ahead, between))
                    found = faults_in(book, page, ((),) * len(book[1]), log)
                    wanted = overlooks(book, page, d, ahead, between)
                    same(self, found, [len(log) - 1] if wanted else [])
                    count += 1
        self.assertGreater(count, 200)

    def some_trials(self, random, book, d):
        """Trials of the deed, of rows that are taken at random."""
        found = []
        for _ in range(30):
            row = [random.randrange(len(book[1])) for _ in range(random.randrange(7))]
            states = samples.states_along(book, row)
            place = random.randrange(len(row) + 1)
            if states is not None and None not in [book[1][d][1][s] for s in [states[place], states[-1]]]:
                found.append((row[:place], row[place:]))
        return found

    def test_long_rows(self):
        log = log_of(RING, 2, [1] * 60, (2,) * 60)
        same(self, log, [("come", 1)] * 60 + [("look", 0, 0)] + [("look", 1, 0), ("do", 1, 2)] * 60 + [("do", 0, 2)])

    def test_errors(self):
        rows = samples.WRONG_ROWS + [[], [1], [0, 1], [2, 2], [0, 2]]
        samples.check_errors(self, log_of, [MAIL, 1, [0], [0]], [
            (NoBook, samples.WRONG_BOOKS), (NoDeed, samples.WRONG_DEEDS), (NoTrial, rows),
            (NoTrial, samples.WRONG_ROWS + [[1], [2], [2, 2]]),
        ])
        samples.check_errors(self, log_of, [LOOP, 0, [], []], [(NoBook, samples.WRONG_BOOKS), (NoDeed, [1])])
        with self.assertRaises(NoTrial):
            log_of(LEAST, 0, [], [])

    def test_nothing_changes(self):
        samples.check_stays(self, log_of, [MAIL, 1, [2, 0], [0, 2, 0]])
        row = [0]
        samples.check_stays(self, log_of, [MAIL, 1, row, row])


if __name__ == "__main__":
    unittest.main()
