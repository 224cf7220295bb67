"""Tests of oldsights.checking (points 2 to 4, 7 and 12 to 14)."""

import unittest
from random import Random

from oldsights.books import accepts
from oldsights.checking import alike_checks, covered, fewest_checks, least_checks, parted, safe, within
from oldsights.errors import NoBook, NoDeed, NoKinds, NoMarks
from tests import samples
from tests.samples import LEAST, LINE, LOOP, MAIL, MAIL_NONE, MAIL_PAGE, RING, same

EXAMPLES = """
>>> from oldsights.checking import alike_checks, covered, fewest_checks, least_checks, parted, safe, within
>>> mail = (3, (("out", (1, 1, 1)), ("deed", (None, 0, None)), ("deed", (2, 2, None))))
>>> page = ((), (0, 1), (0, 1))
>>> [least_checks(mail, page, 1), fewest_checks(mail, page), safe(mail, page, ((), (0,), (0, 1)))]
[[(0,)], ((), (0,), (0, 1)), True]
>>> [covered(mail, 1, (0,)), covered(mail, 2, (0,)), alike_checks(mail, 1, (0, 1))]
[(0, 1, 2), (0, 2), [(0,), (0, 1), (0, 2), (0, 1, 2)]]
>>> [within(mail, ((), (0,), ()), ((), (1,), ())), parted(mail, ((), (0,), ()), ((), (1,), ()))]
[None, (1, [0], [0])]
"""
# Ten deeds in one state, each of which can come at any time.
FREE = (1, (("deed", (0,)),) * 10)
FREE_FULL = (tuple(range(10)),) * 10
# Ten deeds of ten states, of which each leads anywhere.
WIDE = (10, tuple(("deed", tuple((s + k) % 10 for s in range(10))) for k in range(10)))
BOOK_ERRORS = (NoBook, samples.WRONG_BOOKS)
MARKS_ERRORS = (NoMarks, samples.WRONG_MARKS)
DEED_ERRORS = (NoDeed, samples.WRONG_DEEDS)


def full_marks(book):
    """The marks of all kinds for each deed."""
    return tuple(tuple(range(len(book[1]))) if who == "deed" else () for who, _ in book[1])


def cases(seed):
    """Books, small and large, each with a deed, the plain trials of it, and a source of random numbers."""
    random = Random(seed)
    for book in samples.many_books(80, 3, 3) + samples.many_books(80, 2, 4):
        for d in samples.deeds_in(book):
            yield random, book, d, samples.short_trials(book, d)
    for book in samples.many_books(40, 6, 6) + [samples.with_deeds(MAIL), MAIL, LINE, LOOP, LEAST]:
        for d in samples.deeds_in(book)[:1]:
            yield random, book, d, samples.all_trials(book, d)


class Interface(unittest.TestCase):
    def test_examples_of_the_document(self):
        samples.check_examples(self, EXAMPLES)

    def test_names_of_arguments(self):
        samples.check_interface(self, "oldsights.checking", {
            "safe": ["book", "page", "checks"],
            "least_checks": ["book", "page", "d"],
            "fewest_checks": ["book", "page"],
            "within": ["book", "one", "other"],
            "parted": ["book", "one", "other"],
            "covered": ["book", "d", "some"],
            "alike_checks": ["book", "d", "some"],
        })

    def test_by_name(self):
        same(self, safe(checks=((), (0,), (0, 1)), page=MAIL_PAGE, book=MAIL), True)
        same(self, least_checks(d=1, page=MAIL_PAGE, book=MAIL), [(0,)])
        same(self, fewest_checks(page=MAIL_PAGE, book=MAIL), ((), (0,), (0, 1)))
        same(self, within(other=((), (1,), ()), one=((), (0,), ()), book=MAIL), None)
        same(self, parted(other=((), (1,), ()), one=((), (0,), ()), book=MAIL), (1, [0], [0]))
        same(self, covered(some=(0,), d=2, book=MAIL), (0, 2))
        same(self, alike_checks(some=(0, 1), d=1, book=MAIL), [(0,), (0, 1), (0, 2), (0, 1, 2)])


class Safe(unittest.TestCase):
    def test_any_book(self):
        random = Random(40)
        count = [0, 0]
        for book in samples.many_books(40, 3, 3) + samples.many_books(20, 6, 6) + [MAIL, LINE, LOOP, LEAST]:
            trials = {d: samples.all_trials(book, d) for d in samples.deeds_in(book)}
            for _ in range(8):
                page, checks = samples.some_marks(random, book), samples.some_marks(random, book)
                wanted = all(samples.plain_fault(trials[d], page[d], checks[d]) is None for d in trials)
                same(self, safe(book, page, checks), wanted)
                count[wanted] += 1
        self.assertGreater(min(count), 50)

    def test_each_deed_counts(self):
        for d in range(10):
            page = tuple(((d + 1) % 10,) if k == d else () for k in range(10))
            same(self, safe(FREE, page, ((),) * 10), False)
            same(self, safe(FREE, page, page), True)

    def test_edges(self):
        same(self, safe(LEAST, ((0,),), ((),)), True)
        same(self, safe(LOOP, ((0,), ()), ((), ())), False)
        same(self, safe(LOOP, ((), ()), ((), ())), True)
        same(self, safe((1, (("out", (0,)),)), ((),), ((),)), True)
        same(self, safe(FREE, FREE_FULL, FREE_FULL), True)
        same(self, safe(FREE, FREE_FULL, FREE_FULL[:9] + (tuple(range(9)),)), False)
        same(self, safe(LINE, full_marks(LINE), ((),) * 10), True)

    def test_errors(self):
        samples.check_errors(self, safe, [MAIL, MAIL_PAGE, MAIL_NONE], [BOOK_ERRORS, MARKS_ERRORS, MARKS_ERRORS])

    def test_nothing_changes(self):
        samples.check_stays(self, safe, [MAIL, MAIL_PAGE, MAIL_NONE])


class Least(unittest.TestCase):
    def test_any_book(self):
        several = 0
        for random, book, d, trials in cases(41):
            for _ in range(3):
                page = samples.some_marks(random, book)
                wanted = samples.plain_least(trials, len(book[1]), page[d])
                same(self, least_checks(book, page, d), wanted)
                several += len(wanted) > 1
        self.assertGreater(several, 10)

    def test_large_books(self):
        for book in samples.many_books(8, 10, 10):
            page = full_marks(book)
            for d in samples.deeds_in(book)[:1]:
                wanted = samples.plain_least(samples.all_trials(book, d), len(book[1]), page[d])
                same(self, least_checks(book, page, d), wanted)

    def test_order(self):
        # Kind 3 or both 1 and 2 must be checked: the letter is overlooked by the ways 1, 3 and 2, 3 alone.
        ways = (4, (("deed", (0, None, None, 3)), ("out", (1, None, None, None)), ("out", (2, None, None, None)),
                    ("out", (None, 3, 3, None))))
        same(self, least_checks(ways, ((3,), (), (), ()), 0), [(3,), (1, 2)])
        same(self, least_checks(ways, ((1,), (), (), ()), 0), [(1,), (3,)])
        same(self, least_checks(ways, ((1, 2), (), (), ()), 0), [(3,), (1, 2)])
        same(self, fewest_checks(ways, ((1, 2), (), (), ())), ((3,), (), (), ()))
        same(self, fewest_checks(ways, ((1,), (), (), ())), ((1,), (), (), ()))

    def test_edges(self):
        same(self, least_checks(LEAST, ((0,),), 0), [()])
        same(self, fewest_checks(LEAST, ((0,),)), ((),))
        same(self, least_checks(LOOP, ((), ()), 0), [()])
        same(self, least_checks(LOOP, ((0, 1), ()), 0), [(0, 1)])
        same(self, fewest_checks(LOOP, ((0, 1), ())), ((0, 1), ()))
        same(self, fewest_checks((1, (("out", (0,)),)), ((),)), ((),))
        same(self, fewest_checks(LINE, full_marks(LINE)), ((),) * 10)

    def test_ten_states_and_kinds(self):
        same(self, least_checks(FREE, FREE_FULL, 9), [tuple(range(10))])
        same(self, fewest_checks(FREE, FREE_FULL), FREE_FULL)
        same(self, fewest_checks(WIDE, FREE_FULL), FREE_FULL)
        page = tuple((k,) for k in range(10))
        same(self, fewest_checks(WIDE, page), page)

    def test_fewest_are_the_first(self):
        random = Random(42)
        for book in samples.many_books(60, 6, 6):
            page = samples.some_marks(random, book)
            deeds = samples.deeds_in(book)
            found = fewest_checks(book, page)
            wanted = tuple(least_checks(book, page, k)[0] if k in deeds else () for k in range(len(book[1])))
            same(self, found, wanted)
            same(self, safe(book, page, found), True)

    def test_errors(self):
        good = [MAIL, MAIL_PAGE, 1]
        samples.check_errors(self, least_checks, good, [BOOK_ERRORS, MARKS_ERRORS, DEED_ERRORS])
        samples.check_errors(self, fewest_checks, good[:2], [BOOK_ERRORS, MARKS_ERRORS])

    def test_nothing_changes(self):
        samples.check_stays(self, least_checks, [MAIL, MAIL_PAGE, 1])
        samples.check_stays(self, fewest_checks, [MAIL, MAIL_PAGE])


class Compared(unittest.TestCase):
    def check(self, found, wanted, book, one, other, both_ways):
        """What within or parted tell is right, if the plain deed and number of entries are these."""
        if wanted is None:
            same(self, found, None)
            return
        d, ahead, between = found
        same(self, [type(found), type(ahead), type(between)], [tuple, list, list])
        same(self, (d, len(ahead) + len(between)), wanted)
        told = (accepts(book, one, d, ahead, between), accepts(book, other, d, ahead, between))
        self.assertIn(told, [(True, False), (False, True)] if both_ways else [(True, False)])

    def first(self, trials, one, other, both_ways):
        """The least deed, and the fewest entries, of a trial that just one of them accepts."""
        for d in trials:
            ways = [samples.plain_fault(trials[d], other[d], one[d])]
            ways += [samples.plain_fault(trials[d], one[d], other[d])] if both_ways else []
            if ways != [None] * len(ways):
                return (d, min(length for length in ways if length is not None))
        return None

    def test_any_book(self):
        random = Random(43)
        count = [0, 0]
        for book in samples.many_books(50, 3, 3) + samples.many_books(30, 5, 5) + [MAIL, LINE, LOOP, LEAST]:
            trials = {d: samples.all_trials(book, d) for d in samples.deeds_in(book)}
            for _ in range(8):
                one, other = samples.some_marks(random, book), samples.some_marks(random, book)
                found = within(book, one, other)
                self.check(found, self.first(trials, one, other, False), book, one, other, False)
                found = parted(book, one, other)
                self.check(found, self.first(trials, one, other, True), book, one, other, True)
                self.assertEqual(found is None, within(book, one, other) is within(book, other, one) is None)
                count[found is None] += 1
        self.assertGreater(min(count), 100)

    def test_edges(self):
        for book in [LEAST, LINE, LOOP, FREE, WIDE]:
            none, full = ((),) * len(book[1]), full_marks(book)
            for function in [within, parted]:
                same(self, function(book, none, none), None)
                same(self, function(book, full, full), None)
            same(self, within(book, full, none), None)
        for function in [within, parted]:
            # No deed can come twice there, so nothing is ever refused.
            same(self, function(LEAST, ((),), ((0,),)), None)
            same(self, function(LINE, ((),) * 10, full_marks(LINE)), None)
            same(self, function(LOOP, ((), ()), ((1,), ())), (0, [], [1]))
            same(self, function(FREE, ((),) * 10, ((),) * 9 + ((3,),)), (9, [], [3]))
            same(self, function(FREE, ((),) * 10, ((),) * 4 + ((7,),) * 6), (4, [], [7]))
        same(self, parted(LOOP, ((1,), ()), ((), ())), (0, [], [1]))

    def test_the_least_deed_not_the_shortest_trial(self):
        # Deed 0 can come in state 2 alone, deed 1 at once.
        late = (3, (("deed", (None, None, 2)), ("deed", (0, 1, 2)), ("out", (1, 2, 2))))
        one, other = ((), (), ()), ((2,), (2,), ())
        same(self, within(late, one, other), (0, [2, 2], [2]))
        same(self, parted(late, one, other), (0, [2, 2], [2]))
        same(self, parted(late, other, one), (0, [2, 2], [2]))
        same(self, within(late, ((2,), (), ()), other), (1, [], [2]))

    def test_the_shorter_of_both_ways(self):
        # Kind 1 between takes one entry, kind 3 needs kind 2 ahead of it.
        ways = (3, (("deed", (0, None, 2)), ("out", (2, None, None)), ("out", (1, None, None)),
                    ("out", (None, 2, None))))
        one, other = ((1,), (), (), ()), ((3,), (), (), ())
        same(self, within(ways, one, other), (0, [], [2, 3]))
        same(self, within(ways, other, one), (0, [], [1]))
        same(self, parted(ways, one, other), (0, [], [1]))
        same(self, parted(ways, other, one), (0, [], [1]))

    def test_errors(self):
        wrong = [BOOK_ERRORS, MARKS_ERRORS, MARKS_ERRORS]
        for function in [within, parted]:
            samples.check_errors(self, function, [MAIL, MAIL_PAGE, MAIL_NONE], wrong)

    def test_nothing_changes(self):
        for function in [within, parted]:
            samples.check_stays(self, function, [MAIL, MAIL_NONE, MAIL_PAGE])
            samples.check_stays(self, function, [MAIL, MAIL_PAGE, MAIL_PAGE])


class Covered(unittest.TestCase):
    def test_any_book(self):
        for random, book, d, trials in cases(44):
            many = len(book[1])
            for _ in range(4):
                some = [random.randrange(many) for _ in range(random.randrange(4))]
                same(self, covered(book, d, some), samples.plain_covered(trials, many, some))
                same(self, alike_checks(book, d, some), samples.plain_alike(trials, many, some))

    def test_large_books(self):
        random = Random(45)
        for book in samples.many_books(10, 10, 10):
            many = len(book[1])
            for d in samples.deeds_in(book)[:1]:
                trials = samples.all_trials(book, d)
                some = [random.randrange(many) for _ in range(random.randrange(4))]
                same(self, covered(book, d, some), samples.plain_covered(trials, many, some))
                same(self, alike_checks(book, d, some), samples.plain_alike(trials, many, some))

    def test_any_order_and_several_times(self):
        for some in [[2, 0], (0, 2), [2, 0, 2, 0, 0], (2,) * 30 + (0,) * 30]:
            same(self, covered(MAIL, 2, some), covered(MAIL, 2, (0, 2)))
            same(self, alike_checks(MAIL, 2, some), [(0,), (0, 2)])

    def test_covered_is_the_greatest_alike(self):
        for random, book, d, _ in cases(46):
            some = [random.randrange(len(book[1])) for _ in range(random.randrange(3))]
            same(self, alike_checks(book, d, some)[-1], covered(book, d, some))

    def test_free_of_faults_just_if_the_page_is_covered(self):
        for random, book, d, _ in cases(47):
            page, checks = samples.some_marks(random, book), samples.some_marks(random, book)
            found = set(page[d]) <= set(covered(book, d, checks[d]))
            alone = tuple(page[k] if k == d else () for k in range(len(book[1])))
            same(self, found, safe(book, alone, checks))

    def test_edges(self):
        # Where the deed can come in no state, all tuples refuse the same trials: none.
        same(self, covered(LEAST, 0, []), (0,))
        same(self, alike_checks(LEAST, 0, []), [(), (0,)])
        same(self, covered(LINE, 3, ()), tuple(range(10)))
        same(self, alike_checks(LINE, 3, (9,)), samples.all_tuples(range(10)))
        same(self, covered(LOOP, 0, ()), ())
        same(self, alike_checks(LOOP, 0, ()), [()])
        same(self, covered(FREE, 0, [9, 3]), (3, 9))
        same(self, alike_checks(FREE, 0, [9, 3]), [(3, 9)])
        same(self, alike_checks(WIDE, 0, list(range(10))), [tuple(range(10))])
        # Kind 0 leads away for ever, so it is in no row between.
        away = (2, (("out", (1, 1)), ("deed", (0, None))))
        same(self, covered(away, 1, []), (0,))
        same(self, alike_checks(away, 1, [0]), [(), (0,)])
        same(self, alike_checks(away, 1, [0, 1]), [(1,), (0, 1)])

    def test_errors(self):
        for function in [covered, alike_checks]:
            samples.check_errors(self, function, [MAIL, 1, [0]],
                                 [BOOK_ERRORS, DEED_ERRORS, (NoKinds, samples.WRONG_ROWS)])

    def test_nothing_changes(self):
        for function in [covered, alike_checks]:
            samples.check_stays(self, function, [MAIL, 1, [1, 0, 1]])


if __name__ == "__main__":
    unittest.main()
