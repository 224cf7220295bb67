"""Tests of oldsights.box (points 2 to 4, 7, 9 and 20)."""

import inspect
import unittest
from copy import deepcopy
from random import Random

from oldsights.box import Box
from oldsights.errors import NoBook, NoDeed, NoHelper, NoKind, NoLate, NoMarks, NoNumber
from tests import samples
from tests.samples import LEAST, LINE, LOOP, MAIL, MAIL_NONE, MAIL_PAGE, RING, same

EXAMPLES = """
>>> from oldsights.box import Box
>>> talk = (3, (("out", (1, 1, 1)), ("deed", (None, 2, None))))
>>> box = Box(talk, ((), (0,)), page=((), (0,)))
>>> [box.come(0), box.look(5), box.come(0), box.do(5, 1), box.look(5, late=0), box.do(5, 1), box.state(), list(box), box.since(5), box.overlooked(), box.allowed(5)]
[1, 1, 1, False, 1, True, 2, [0, 0, 1], [], [], []]
"""
CHECKS = ((), (0,), (0, 1))
EMPTY = ((), ())
FULL = ((0, 1), ())
HELPERS = [0, 1, 99, 50]
NO_KINDS = samples.NO_NUMBERS + [3]
THINGS = samples.NO_NUMBERS + [0, 1, MAIL, (MAIL, MAIL_NONE), [("come", 0)], [0], samples.nested(20, 0)]


def views(box):
    """All that can be asked of a box."""
    seen = [[box.sight(h), box.since(h), box.allowed(h)] for h in HELPERS]
    numbers = range(len(box.book[1]))
    return [box.state(), len(box), list(box), [box[i] for i in range(len(box))], [k in box for k in numbers],
            box.overlooked(), box.log(), seen]


def plain_views(book, checks, page, log):
    """The same, read once more from the document."""
    play = samples.plain_play(book, page, checks, log)
    kinds, seen = play["kinds"], []
    for h in HELPERS:
        moment, state = play["sights"].get(h, (None, None))
        since = None if moment is None else kinds[moment:]
        allowed = []
        for d in samples.deeds_in(book):
            if samples.plain_reading(book, page, checks, log + [("do", h, d)])[0][-1]:
                allowed.append(d)
        seen.append([state, since, allowed])
    return [play["now"], len(kinds), kinds, kinds, [k in kinds for k in range(len(book[1]))], play["overlooked"], log,
            seen]


def call(box, entry):
    """Let the box take the entry of a log."""
    if entry[0] == "come":
        return box.come(entry[1])
    if entry[0] == "look":
        return box.look(entry[1], late=entry[2])
    return box.do(entry[1], entry[2])


def played(box, log):
    """The box behind all entries of the log."""
    for entry in log:
        call(box, entry)
    return box


class Interface(unittest.TestCase):
    def test_examples_of_the_document(self):
        samples.check_examples(self, EXAMPLES)

    def test_methods_stand_in_the_class(self):
        wanted = {
            "come": ["self", "k"], "look": ["self", "h", "late"], "do": ["self", "h", "d"], "state": ["self"],
            "sight": ["self", "h"], "since": ["self", "h"], "allowed": ["self", "h"], "overlooked": ["self"],
            "back": ["self"], "log": ["self"], "__init__": ["self", "book", "checks", "page"],
        }
        self.assertEqual(Box.__module__, "oldsights.box")
        for name, arguments in wanted.items():
            self.assertEqual(list(inspect.signature(vars(Box)[name]).parameters), arguments)
        for name in ["__getitem__", "__contains__", "__len__", "__iter__", "__eq__", "__ne__"]:
            self.assertIn(name, vars(Box))

    def test_by_name(self):
        box = Box(page=MAIL_PAGE, checks=MAIL_NONE, book=MAIL)
        same(self, [box.come(k=0), box.come(k=0), box.look(late=1, h=99), box.do(d=1, h=99)], [1, 1, 1, True])
        same(self, [box.sight(h=99), box.since(h=99), box.allowed(h=99)], [0, [], [2]])
        same(self, box.overlooked(), [(99, 1, 2)])

    def test_by_name_alone(self):
        with self.assertRaises(TypeError):
            Box(MAIL, MAIL_NONE, MAIL_PAGE)
        with self.assertRaises(TypeError):
            Box(MAIL, MAIL_NONE).look(1, 0)


class Calls(unittest.TestCase):
    def test_empty(self):
        for box in [Box(LEAST, ((),)), Box(LEAST, ((0,),), page=((0,),)), Box(LEAST, ((),), page=None)]:
            same(self, views(box), [0, 0, [], [], [False], [], [], [[None, None, []]] * 4])
            same(self, box.back(), False)

    def test_come(self):
        box = Box(LINE, ((),) * 10)
        same(self, [box.come(9) for _ in range(11)], [1, 2, 3, 4, 5, 6, 7, 8, 9, None, None])
        same(self, [box.state(), len(box), list(box)], [9, 9, [9] * 9])
        same(self, box.log(), [("come", 9)] * 11)

    def test_late_looks(self):
        box = Box(LINE, ((),) * 10)
        same(self, box.look(0, late=1000), 0)
        for _ in range(9):
            box.come(9)
        same(self, [box.look(1, late=late) for late in [0, 1, 4, 8, 9, 10, 11, 1000]], [9, 8, 5, 1, 0, 0, 0, 0])
        same(self, [box.sight(1), box.since(1)], [0, [9] * 9])
        same(self, [box.look(1, late=3), box.sight(1), box.since(1)], [6, 6, [9] * 3])
        same(self, [box.look(1), box.sight(1), box.since(1)], [9, 9, []])
        same(self, box.log()[-2:], [("look", 1, 3), ("look", 1, 0)])
        same(self, [box.sight(0), box.since(0), box.sight(2), box.since(2)], [0, [9] * 9, None, None])

    def test_do(self):
        box = Box(MAIL, MAIL_NONE, page=MAIL_PAGE)
        # Without a sight; in a sight in which it cannot come; where it cannot come now.
        same(self, [box.do(5, 2), box.look(5), box.come(0), box.do(5, 1)], [False, 0, 1, False])
        same(self, [box.look(6), box.look(5), box.do(5, 2), box.do(6, 1), box.do(6, 2)], [1, 1, True, False, False])
        same(self, [list(box), box.sight(6), box.since(6), box.sight(5), box.since(5)], [[0, 2], 1, [2], 2, []])

    def test_twice_with_no_look_between(self):
        # The deed itself is not among the happenings since.
        for checks, wanted in [(EMPTY, True), (((0,), ()), True), (FULL, True)]:
            box = Box(LOOP, checks, page=FULL)
            same(self, [box.look(0), box.do(0, 0), box.do(0, 0), box.come(1)], [0, True, True, 0])
            same(self, box.do(0, 0), checks != FULL)
            same(self, box.overlooked(), [] if checks == FULL else [(0, 0, 3)])

    def test_other_helpers_keep_their_sights(self):
        box = Box(LOOP, ((0,), ()))
        same(self, [box.look(0), box.look(99), box.do(0, 0), box.do(99, 0)], [0, 0, True, False])
        same(self, [box.allowed(0), box.allowed(99), box.since(99)], [[0], [], [0]])

    def test_overlooked(self):
        box = Box(LOOP, EMPTY, page=FULL)
        for h in [7, 3, 5]:
            box.look(h)
        same(self, [box.do(3, 0), box.do(5, 0), box.do(3, 0), box.do(7, 0)], [True] * 4)
        same(self, box.overlooked(), [(5, 0, 1), (3, 0, 2), (7, 0, 3)])
        box = Box(LOOP, EMPTY, page=((1,), ()))
        same(self, [box.look(1), box.come(1), box.look(2), box.do(2, 0), box.do(1, 0)], [0, 0, 0, True, True])
        same(self, box.overlooked(), [(1, 0, 2)])

    def test_a_refused_deed_overlooks_nothing(self):
        box = Box(LOOP, FULL, page=FULL)
        same(self, [box.look(1), box.come(1), box.do(1, 0), box.overlooked()], [0, 0, False, []])

    def test_without_a_page(self):
        for box in [Box(LOOP, EMPTY), Box(LOOP, EMPTY, page=None), Box(LOOP, EMPTY, page=EMPTY)]:
            same(self, [box.look(1), box.come(1), box.do(1, 0), box.overlooked()], [0, 0, True, []])

    def test_the_page_refuses_nothing(self):
        box = Box(LOOP, EMPTY, page=FULL)
        same(self, [box.look(1), box.come(1), box.allowed(1), box.do(1, 0)], [0, 0, [0], True])

    def test_allowed(self):
        box = Box(RING, ((),) * 8 + ((1,), ()))
        same(self, box.allowed(4), [])
        box.look(4)
        same(self, box.allowed(4), [0, 2, 4, 6, 8])
        box.come(3)
        same(self, box.allowed(4), [0, 2, 4, 6, 8])
        box.come(1)
        same(self, box.allowed(4), [0, 2, 4, 6])

    def test_any_calls(self):
        random = Random(70)
        refused = overlooked = taken = 0
        for book in samples.many_books(400, 3, 4) + samples.many_books(20, 10, 10) + [MAIL, LOOP, RING, LINE]:
            page, checks = samples.some_marks(random, book), samples.some_marks(random, book)
            box, log = Box(book, checks, page=page), []
            for entry in samples.some_log(random, book, random.randrange(40)):
                told = call(box, entry)
                log.append(entry)
                same(self, told, samples.plain_reading(book, page, checks, log)[0][-1])
                refused += told is False
                while random.random() < 0.2:
                    same(self, box.back(), log != [])
                    log, taken = log[:-1], taken + 1
                same(self, views(box), plain_views(book, checks, page, log))
            overlooked += len(box.overlooked())
        self.assertGreater(min(refused, overlooked, taken), 50)

    def test_two_hundred_calls(self):
        random = Random(71)
        for book in [RING, LINE, MAIL, LOOP]:
            page, checks = samples.some_marks(random, book), samples.some_marks(random, book)
            log = samples.some_log(random, book, 200)
            box = Box(book, checks, page=page)
            told = [call(box, entry) for entry in log]
            same(self, told, samples.plain_reading(book, page, checks, log)[0])
            same(self, views(box), plain_views(book, checks, page, log))
            same(self, [box.back() for _ in range(201)], [True] * 200 + [False])
            same(self, views(box), views(Box(book, checks, page=page)))

    def test_a_hundred_helpers(self):
        box = Box(LOOP, FULL, page=FULL)
        same(self, [box.look(h) for h in range(100)], [0] * 100)
        same(self, [box.do(h, 0) for h in range(100)], [True] + [False] * 99)


class Back(unittest.TestCase):
    def test_each_kind_of_call(self):
        # What comes, what cannot; a first look, a further one, a late one; a deed, one that overlooks, a refused one.
        log = [("look", 1, 0), ("come", 0), ("look", 1, 0), ("come", 0), ("look", 2, 1), ("do", 2, 1), ("do", 1, 1),
               ("do", 1, 2), ("look", 3, 0), ("do", 3, 2), ("come", 0), ("do", 3, 1)]
        box = Box(MAIL, MAIL_NONE, page=MAIL_PAGE)
        kept = [deepcopy(views(box))]
        for entry in log:
            call(box, entry)
            kept.append(deepcopy(views(box)))
        self.assertNotEqual(kept[-1][5], [])
        for seen in kept[-2::-1]:
            same(self, box.back(), True)
            same(self, views(box), seen)
        same(self, [box.back(), box.back(), views(box)], [False, False, kept[0]])

    def test_what_could_not_come(self):
        box = Box((2, (("out", (1, None)), ("deed", (1, 1)))), EMPTY)
        same(self, [box.come(0), box.come(0), box.log()], [1, None, [("come", 0), ("come", 0)]])
        same(self, [box.back(), box.state(), box.log()], [True, 1, [("come", 0)]])
        same(self, [box.back(), box.state(), box.log(), box.back()], [True, 0, [], False])

    def test_a_sight_is_as_it_was(self):
        box = Box(LOOP, EMPTY)
        box.look(4)
        box.come(1)
        box.look(4)
        same(self, [box.since(4), box.back(), box.since(4)], [[], True, [1]])
        box.do(4, 0)
        same(self, [box.since(4), box.back(), box.since(4)], [[], True, [1]])
        same(self, [box.back(), box.since(4), box.back(), box.since(4)], [True, [], True, None])

    def test_on_from_there(self):
        box = Box(LOOP, EMPTY, page=FULL)
        played(box, [("look", 1, 0), ("come", 1), ("do", 1, 0)])
        same(self, [box.overlooked(), box.back(), box.overlooked()], [[(1, 0, 1)], True, []])
        same(self, [box.look(1), box.do(1, 0), box.overlooked()], [0, True, []])
        same(self, box.log(), [("look", 1, 0), ("come", 1), ("look", 1, 0), ("do", 1, 0)])

    def test_a_call_with_an_error_is_none(self):
        box = Box(LOOP, EMPTY)
        box.come(1)
        for wrong in [lambda: box.come(0), lambda: box.look(100), lambda: box.look(1, late=-1), lambda: box.do(1, 1)]:
            with self.assertRaises((NoKind, NoHelper, NoLate, NoDeed)):
                wrong()
        same(self, [box.log(), box.back(), box.log(), box.back()], [[("come", 1)], True, [], False])

    def test_what_asks_is_no_call(self):
        box = Box(LOOP, EMPTY)
        box.come(1)
        views(box)
        same(self, [box.back(), len(box)], [True, 0])


class Happenings(unittest.TestCase):
    def test_in(self):
        box = Box(MAIL, MAIL_NONE)
        same(self, [k in box for k in range(3)], [False] * 3)
        played(box, [("come", 0), ("look", 0, 0), ("do", 0, 1)])
        same(self, [k in box for k in range(3)], [True, True, False])
        same(self, [k not in box for k in range(3)], [False, False, True])
        # True would be 1, and False 0, for Python.
        for thing in NO_KINDS + [[0], [1], (1,), 10 ** 29]:
            same(self, thing in box, False)
            same(self, thing not in box, True)

    def test_iteration(self):
        box = Box(MAIL, MAIL_NONE)
        same(self, [list(box), tuple(box), [k for k in box]], [[], (), []])
        played(box, [("come", 0), ("look", 0, 0), ("do", 0, 1), ("come", 0)])
        same(self, [list(box), tuple(box), sorted(box)], [[0, 1, 0], (0, 1, 0), [0, 0, 1]])
        found = []
        for one in box:
            for other in box:
                found.append((one, other))
        self.assertEqual(len(found), 9)

    def test_as_they_are_when_the_iterating_begins(self):
        box = Box(LOOP, EMPTY)
        played(box, [("look", 0, 0), ("do", 0, 0), ("come", 1)])
        found = []
        for k in box:
            found.append(k)
            box.come(1)
            box.come(1)
            box.back()
        same(self, [found, list(box)], [[0, 1], [0, 1, 1, 1]])
        ways = [iter(box)]
        same(self, next(ways[0]), 0)
        for change in [box.back, box.back, box.back, lambda: box.do(0, 0), lambda: box.look(0), lambda: box.do(0, 0)]:
            ways.append(iter(box))
            change()
        same(self, [list(way) for way in ways], [[1, 1, 1], [0, 1, 1, 1], [0, 1, 1], [0, 1], [0], [0, 0], [0, 0]])
        same(self, list(box), [0, 0, 0])

    def test_number(self):
        box = Box(MAIL, MAIL_NONE)
        with self.assertRaises(NoNumber):
            box[0]
        played(box, [("come", 0), ("look", 0, 0), ("do", 0, 1)])
        same(self, [box[0], box[1]], [0, 1])
        for i in samples.NO_NUMBERS + [2, 3]:
            with self.assertRaises(NoNumber, msg=repr(i)):
                box[i]
        box.back()
        with self.assertRaises(NoNumber):
            box[1]


class Equality(unittest.TestCase):
    def check(self, one, other, wanted):
        """Whether the two are equal, asked in all ways."""
        same(self, [one == other, other == one, one != other, other != one], [wanted, wanted, not wanted, not wanted])

    def test_alike(self):
        for log in [[], [("come", 0)], [("come", 0), ("look", 1, 0), ("do", 1, 1), ("look", 3, 1)]]:
            self.check(played(Box(MAIL, CHECKS), log), played(Box(deepcopy(MAIL), deepcopy(CHECKS)), log), True)
            box = played(Box(MAIL, CHECKS), log)
            self.check(box, box, True)

    def test_book_and_checks(self):
        self.check(Box(MAIL, MAIL_NONE), Box(MAIL, CHECKS), False)
        self.check(Box(LOOP, EMPTY), Box((2, (("deed", (0, None)), ("out", (0, None)))), EMPTY), False)
        self.check(Box(LOOP, EMPTY), Box(LEAST, ((),)), False)
        self.check(Box((1, (("out", (0,)),)), ((),)), Box((1, (("deed", (0,)),)), ((),)), False)

    def test_happenings(self):
        out = (1, (("out", (0,)), ("out", (0,))))
        boxes = [played(Box(out, EMPTY), [("come", k) for k in row]) for row in [[], [0], [1], [0, 1], [1, 0], [0, 0]]]
        for one in boxes:
            for other in boxes:
                self.check(one, other, one is other)

    def test_whoever_did_them(self):
        # Helper 1 has done it, or helper 2, and then both look: the same sights.
        looks = [("look", 1, 0), ("look", 2, 0)]
        one = played(Box(LOOP, EMPTY), [("look", 1, 0), ("do", 1, 0)] + looks)
        other = played(Box(LOOP, EMPTY), [("look", 2, 0), ("do", 2, 0)] + looks[::-1])
        self.check(one, other, True)
        self.check(played(Box(LOOP, EMPTY), [("look", 1, 0), ("do", 1, 0)]),
                   played(Box(LOOP, EMPTY), [("look", 2, 0), ("do", 2, 0)]), False)

    def test_sights(self):
        one = played(Box(LOOP, EMPTY), [("come", 1), ("come", 1)])
        logs = [[], [("look", 0, 0)], [("look", 0, 1)], [("look", 0, 2)], [("look", 1, 0)],
                [("look", 0, 0), ("look", 1, 0)]]
        boxes = [played(Box(LOOP, EMPTY), one.log() + log) for log in logs]
        for box in boxes:
            for other in boxes:
                self.check(box, other, box is other)
        # The same moment by another late look, and the same sight whichever was there ahead of it.
        self.check(boxes[3], played(Box(LOOP, EMPTY), one.log() + [("look", 0, 1000)]), True)
        self.check(boxes[1], played(Box(LOOP, EMPTY), one.log() + [("look", 0, 2), ("look", 0, 0)]), True)
        self.check(boxes[1], played(Box(LOOP, EMPTY), one.log() + [("look", 0, 0), ("do", 7, 0)]), True)
        # In one state, but not of one moment.
        self.check(played(Box(LOOP, EMPTY), [("look", 0, 0), ("come", 1)]),
                   played(Box(LOOP, EMPTY), [("come", 1), ("look", 0, 0)]), False)

    def test_pages_and_what_can_be_taken_back(self):
        log = [("look", 1, 0), ("come", 1), ("do", 1, 0)]
        one, other = played(Box(LOOP, EMPTY, page=FULL), log), played(Box(LOOP, EMPTY), log)
        self.check(one, other, True)
        self.assertNotEqual(one.overlooked(), other.overlooked())
        one.do(2, 0)
        self.check(one, other, True)
        one.come(1)
        self.check(one, other, False)
        one.back()
        self.check(one, other, True)
        one.back()
        one.back()
        self.check(one, other, False)

    def test_anything(self):
        for box in [Box(MAIL, MAIL_NONE), played(Box(MAIL, MAIL_NONE), [("come", 0)])]:
            for thing in THINGS + [list(box), tuple(box), box.log(), MAIL, len(box)]:
                self.check(box, thing, False)


class Apart(unittest.TestCase):
    def test_two_boxes(self):
        one, other = Box(MAIL, MAIL_NONE, page=MAIL_PAGE), Box(MAIL, MAIL_NONE, page=MAIL_PAGE)
        log = [("come", 0), ("look", 1, 0), ("come", 0), ("do", 1, 1)]
        played(one, log)
        same(self, views(other), views(Box(MAIL, MAIL_NONE)))
        played(other, log[:2])
        kept = views(one)
        other.back()
        other.look(1)
        other.come(0)
        same(self, views(one), kept)
        one.back()
        same(self, other.log(), [("come", 0), ("look", 1, 0), ("come", 0)])

    def test_results_are_the_callers(self):
        box = played(Box(LOOP, EMPTY, page=FULL), [("look", 1, 0), ("look", 2, 0), ("come", 1), ("do", 1, 0)])
        kept = deepcopy(views(box))
        for ask in [lambda: box.since(2), lambda: box.allowed(2), box.overlooked, box.log]:
            first, second = ask(), ask()
            self.assertGreater(len(first), 0)
            self.assertIsNot(first, second)
            first.append(5)
            second.clear()
            same(self, views(box), kept)
        since, told, overlooked = box.since(2), box.log(), box.overlooked()
        box.come(1)
        box.do(2, 0)
        same(self, [since, told, overlooked], [[1, 0], kept[6], kept[5]])
        while box.back():
            pass
        same(self, [since, told, overlooked], [[1, 0], kept[6], kept[5]])

    def test_arguments_stay(self):
        book, checks, page = deepcopy(MAIL), deepcopy(CHECKS), deepcopy(MAIL_PAGE)
        box = Box(book, checks, page=page)
        played(box, [("come", 0), ("look", 1, 0), ("do", 1, 1)])
        same(self, [book, checks, page], [MAIL, CHECKS, MAIL_PAGE])


class Errors(unittest.TestCase):
    def unchanged(self, box, kept, error, function, *arguments, **named):
        with self.assertRaises(error, msg=repr((arguments, named))):
            function(*arguments, **named)
        same(self, views(box), kept)

    def test_of_a_new_box(self):
        def new(book, checks, page):
            return Box(book, checks, page=page)

        samples.check_errors(self, new, [MAIL, CHECKS, MAIL_PAGE], [
            (NoBook, samples.WRONG_BOOKS), (NoMarks, samples.WRONG_MARKS),
            (NoMarks, [marks for marks in samples.WRONG_MARKS if marks is not None]),
        ])
        with self.assertRaises(NoMarks):
            Box(MAIL, None)

    def test_of_the_methods(self):
        for log in [[], [("come", 0), ("look", 1, 0), ("come", 0), ("do", 1, 1)]]:
            box = played(Box(MAIL, MAIL_NONE, page=MAIL_PAGE), log)
            kept = deepcopy(views(box))
            for k in samples.WRONG_OUTS:
                self.unchanged(box, kept, NoKind, box.come, k)
            for h in samples.WRONG_HELPERS:
                for function in [box.look, box.sight, box.since, box.allowed]:
                    self.unchanged(box, kept, NoHelper, function, h)
                self.unchanged(box, kept, NoHelper, box.do, h, 1)
                self.unchanged(box, kept, NoHelper, box.do, h, None)
                self.unchanged(box, kept, NoHelper, box.look, h, late=None)
            for late in samples.WRONG_LATES:
                self.unchanged(box, kept, NoLate, box.look, 1, late=late)
            for d in samples.WRONG_DEEDS:
                self.unchanged(box, kept, NoDeed, box.do, 1, d)
                # Also of a helper without a sight.
                self.unchanged(box, kept, NoDeed, box.do, 7, d)

    def test_of_the_book(self):
        box = Box(LEAST, ((),))
        self.unchanged(box, views(box), NoKind, box.come, 0)
        self.unchanged(box, views(box), NoDeed, box.do, 0, 1)


if __name__ == "__main__":
    unittest.main()
