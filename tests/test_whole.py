"""Tests of what one part of the program tells and others must tell, too, and of the interface as a whole."""

import inspect
import unittest
from importlib import import_module
from pathlib import Path
from random import Random

from oldsights import errors
from oldsights.books import accepts, come_to, led, overlooks
from oldsights.box import Box
from oldsights.checking import alike_checks, covered, fewest_checks, least_checks, parted, safe, within
from oldsights.faults import fault, log_of
from oldsights.logs import faults_in, read_log
from oldsights.texts import book_text, log_read, log_text, read_book
from oldsights.trials import left_checks, next_trial
from oldsights.waiting import settles, staff, stuck, swallowed
from tests import samples
from tests.samples import LINE, LOOP, MAIL, MAIL_NONE, MAIL_PAGE, RING, same

INTERFACE = {
    "books": {"is_book": "thing", "is_row": "book thing", "led": "book state row", "come_to": "book state",
              "is_marks": "book thing", "accepts": "book checks d ahead between",
              "overlooks": "book page d ahead between"},
    "logs": {"read_log": "book checks log", "faults_in": "book page checks log"},
    "faults": {"fault": "book page checks d", "is_table": "book page checks d thing", "log_of": "book d ahead between"},
    "checking": {"safe": "book page checks", "least_checks": "book page d", "fewest_checks": "book page",
                 "within": "book one other", "parted": "book one other", "covered": "book d some",
                 "alike_checks": "book d some"},
    "waiting": {"settles": "book waiting", "swallowed": "book waiting", "staff": "book waiting",
                "stuck": "book waiting"},
    "trials": {"left_checks": "book d told", "next_trial": "book d told"},
    "texts": {"book_text": "book", "log_text": "book log", "read_book": "text", "log_read": "book text"},
}


def books():
    """Books, small and large."""
    return samples.many_books(120, 3, 4) + samples.many_books(20, 8, 8) + [MAIL, LOOP, LINE, RING]


def played(box, log):
    """What the calls of the box told, one for each entry of the log."""
    told = []
    for word, *rest in log:
        if word == "come":
            told.append(box.come(*rest))
        elif word == "look":
            told.append(box.look(rest[0], late=rest[1]))
        else:
            told.append(box.do(*rest))
    return told


class Readme(unittest.TestCase):
    def test_examples(self):
        text = (Path(__file__).resolve().parent.parent / "README.md").read_text()
        samples.check_examples(self, text.replace("```", ""))


class Interface(unittest.TestCase):
    def test_all_names(self):
        for name, functions in INTERFACE.items():
            samples.check_interface(self, "oldsights." + name, {
                function: arguments.split() for function, arguments in functions.items()
            })
        self.assertTrue(inspect.isclass(import_module("oldsights.box").Box))

    def test_each_error_is_raised_by_some_call(self):
        calls = {
            "NoBook": lambda: book_text(None), "NoState": lambda: come_to(MAIL, 3), "NoRow": lambda: led(MAIL, 0, [3]),
            "NoMarks": lambda: safe(MAIL, MAIL_PAGE, ()), "NoDeed": lambda: least_checks(MAIL, MAIL_PAGE, 0),
            "NoTrial": lambda: log_of(MAIL, 1, [], []), "NoLog": lambda: read_log(MAIL, MAIL_NONE, [0]),
            "NoKinds": lambda: covered(MAIL, 1, [3]), "NoWaiting": lambda: staff(MAIL, [3]),
            "NoTold": lambda: left_checks(MAIL, 1, [0]), "NoKind": lambda: Box(MAIL, MAIL_NONE).come(1),
            "NoHelper": lambda: Box(MAIL, MAIL_NONE).sight(100), "NoText": lambda: log_read(MAIL, "come 1"),
            "NoLate": lambda: Box(MAIL, MAIL_NONE).look(1, late=1001), "NoNumber": lambda: Box(MAIL, MAIL_NONE)[0],
        }
        for name, call in calls.items():
            with self.assertRaises(errors.SightsError) as caught:
                call()
            self.assertIs(type(caught.exception), getattr(errors, name))


class LogsAndBoxes(unittest.TestCase):
    def test_the_log_of_a_box_tells_what_its_calls_told(self):
        random = Random(90)
        count = 0
        for book in books():
            page, checks = samples.some_marks(random, book), samples.some_marks(random, book)
            box = Box(book, checks, page=page)
            told = played(box, samples.some_log(random, book, 30))
            log = box.log()
            same(self, read_log(book, checks, log), told)
            places = faults_in(book, page, checks, log)
            same(self, [log[place][1:] for place in places], [(h, d) for h, d, _ in box.overlooked()])
            # Each happening is of an entry that came or was accepted.
            came = [entry[-1] for entry, one in zip(log, told)
                    if entry[0] != "look" and one is not None and one is not False]
            same(self, list(box), came)
            same(self, led(book, 0, list(box)), box.state())
            for h, d, place in box.overlooked():
                same(self, box[place], d)
            count += len(places)
        self.assertGreater(count, 30)

    def test_a_box_from_its_texts(self):
        random = Random(91)
        for book in books():
            checks = samples.some_marks(random, book)
            box = Box(book, checks)
            played(box, samples.some_log(random, book, 20))
            other = Box(read_book(book_text(book)), checks)
            played(other, log_read(book, log_text(book, box.log())))
            same(self, [box == other, other.log() == box.log()], [True, True])

    def test_what_is_allowed_is_done(self):
        random = Random(92)
        for book in books():
            box = Box(book, samples.some_marks(random, book))
            played(box, samples.some_log(random, book, 15))
            for h in [0, 1, 99]:
                for d in samples.deeds_in(book):
                    wanted = d in box.allowed(h)
                    same(self, [box.do(h, d), box.back()], [wanted, True])


class Faults(unittest.TestCase):
    def test_a_deed_has_a_fault_just_if_some_log_has_it(self):
        random = Random(93)
        count = [0, 0]
        for book in books():
            page, checks = samples.some_marks(random, book), samples.some_marks(random, book)
            for d in samples.deeds_in(book):
                found = fault(book, page, checks, d)
                count[found[0] == "fault"] += 1
                if found[0] == "fault":
                    # Who does the other deeds right behind a look is refused none of them.
                    log = log_of(book, d, found[1], found[2])
                    self.assertIn(len(log) - 1, faults_in(book, page, checks, log))
            for _ in range(3):
                log = samples.some_log(random, book, 40)
                for place in faults_in(book, page, checks, log):
                    same(self, fault(book, page, checks, log[place][2])[0], "fault")
        self.assertGreater(min(count), 50)

    def test_with_the_fewest_checks_no_deed_has_a_fault(self):
        random = Random(94)
        count = 0
        for book in books():
            page = samples.some_marks(random, book)
            checks = fewest_checks(book, page)
            same(self, safe(book, page, checks), True)
            same(self, within(book, checks, page), None)
            for d in samples.deeds_in(book):
                same(self, fault(book, page, checks, d)[0], "none")
                same(self, checks[d], least_checks(book, page, d)[0])
                for out in checks[d]:
                    less = tuple(tuple(k for k in mark if at != d or k != out) for at, mark in enumerate(checks))
                    same(self, [safe(book, page, less), fault(book, page, less, d)[0]], [False, "fault"])
                    count += 1
            log = samples.some_log(random, book, 60)
            same(self, faults_in(book, page, checks, log), [])
            box = Box(book, checks, page=page)
            played(box, log)
            same(self, box.overlooked(), [])
        self.assertGreater(count, 30)

    def test_the_same_trials_or_not(self):
        random = Random(95)
        for book in books():
            one, other = samples.some_marks(random, book), samples.some_marks(random, book)
            found = parted(book, one, other)
            if found is not None:
                same(self, accepts(book, one, *found), not accepts(book, other, *found))
                same(self, overlooks(book, one, *found), not overlooks(book, other, *found))
            for d in samples.deeds_in(book):
                greatest = covered(book, d, one[d])
                same(self, greatest, alike_checks(book, d, one[d])[-1])
                same(self, greatest == covered(book, d, other[d]), other[d] in alike_checks(book, d, one[d]))
            whole = tuple(covered(book, d, one[d]) if d in samples.deeds_in(book) else () for d in range(len(one)))
            same(self, parted(book, one, whole), None)


class Told(unittest.TestCase):
    def test_what_a_box_accepts_tells_its_checks(self):
        random = Random(96)
        for book in samples.many_books(40, 4, 4) + [MAIL, LOOP]:
            checks = samples.some_marks(random, book)
            for d in samples.deeds_in(book):
                told = []
                trial = next_trial(book, d, told)
                while trial is not None:
                    # Only the deed that is tried is checked, so that the others are all done.
                    box = Box(book, tuple(checks[d] if k == d else () for k in range(len(book[1]))))
                    ahead, between, many = trial
                    truth = self.tried(box, d, ahead, between)
                    same(self, truth, accepts(book, checks, d, ahead, between))
                    told.append((ahead, between, truth))
                    self.assertLessEqual(len(left_checks(book, d, told)), many)
                    trial = next_trial(book, d, told)
                self.assertIn(checks[d], left_checks(book, d, told))
                same(self, left_checks(book, d, told), alike_checks(book, d, checks[d]))

    def tried(self, box, d, ahead, between):
        """Whether the box accepts the deed at the end of the trial."""
        return played(box, log_of(box.book, d, ahead, between))[-1]

    def test_a_shortest_trial_that_parts_is_told(self):
        random = Random(97)
        for book in samples.many_books(60, 4, 4):
            one, other = samples.some_marks(random, book), samples.some_marks(random, book)
            found = parted(book, one, other)
            if found is not None:
                d, ahead, between = found
                left = left_checks(book, d, [(ahead, between, accepts(book, one, d, ahead, between))])
                same(self, [one[d] in left, other[d] in left], [True, False])


class Waits(unittest.TestCase):
    def test_what_waits_in_a_box(self):
        random = Random(98)
        for book in books():
            waiting = [s for s in range(book[0]) if random.random() < 0.6]
            found = settles(book, waiting)
            rows = [found[1]] * (found[0] != "ranks") + [row for _, row in swallowed(book, waiting)]
            rows += [stuck(book, waiting) or []]
            for row in rows:
                box = Box(book, ((),) * len(book[1]))
                for k in row:
                    if book[1][k][0] == "out":
                        box.come(k)
                    else:
                        box.look(3)
                        same(self, box.do(3, k), True)
                same(self, [list(box), box.state()], [row, led(book, 0, row)])


if __name__ == "__main__":
    unittest.main()
