"""Tests of oldsights.texts (points 2 to 4, 7 and 21)."""

import re
import unittest
from random import Random

from oldsights.errors import NoBook, NoLog, NoText
from oldsights.texts import book_text, log_read, log_text, read_book
from tests import samples
from tests.samples import LEAST, LINE, LOOP, MAIL, RING, same

EXAMPLES = """
>>> from oldsights.texts import book_text, log_read, log_text, read_book
>>> talk = (3, (("out", (1, 1, 1)), ("deed", (None, 2, None))))
>>> [book_text(talk), log_text(talk, [("come", 0), ("look", 5, 0), ("do", 5, 1)])]
['states 3\\nout 1 1 1\\ndeed - 2 -', 'come 0\\nlook 5 0\\ndo 5 1']
>>> talk = (3, (("out", (1, 1, 1)), ("deed", (None, 2, None))))
>>> [read_book("states 1\\ndeed -"), log_read(talk, ""), log_read(talk, "do 0 1\\ncome 0")]
[(1, (('deed', (None,)),)), [], [('do', 0, 1), ('come', 0)]]
"""
MAIL_TEXT = "states 3\nout 1 1 1\ndeed - 0 -\ndeed 2 2 -"
LOG = [("come", 0), ("look", 99, 1000), ("do", 0, 2), ("look", 7, 0), ("come", 0), ("do", 10, 1)]
LOG_LINES = "come 0\nlook 99 1000\ndo 0 2\nlook 7 0\ncome 0\ndo 10 1"
TALK = (3, (("out", (1, 1, 1)), ("deed", (None, 2, None))))


def plain_read_book(text):
    """The book that a text writes, or the number of the first line that cannot stand, read from the document."""
    first, *rest = text.split("\n")
    if not re.fullmatch("states ([1-9]|10)", first):
        return 1
    many = int(first[7:])
    step = "(-|[0-%d])" % (many - 1)
    for place, line in enumerate(rest):
        if not re.fullmatch("(out|deed)( %s){%d}" % (step, many), line):
            return place + 2
    if len(rest) not in range(1, 11):
        return len(rest) + 2
    kinds = [line.split() for line in rest]
    return (many, tuple((who, tuple(None if word == "-" else int(word) for word in steps)) for who, *steps in kinds))


def plain_log_read(book, text):
    """The log that a text writes, or the number of the first line that cannot stand."""
    outs = "|".join(str(k) for k, kind in enumerate(book[1]) if kind[0] == "out") or "none"
    deeds = "|".join(str(d) for d in samples.deeds_in(book)) or "none"
    helper = "(0|[1-9][0-9]?)"
    forms = "come (%s)|look %s (0|[1-9][0-9]{0,2}|1000)|do %s (%s)" % (outs, helper, helper, deeds)
    log = []
    for place, line in enumerate(text.split("\n") if text else []):
        if not re.fullmatch(forms, line):
            return place + 1
        word, *numbers = line.split()
        log.append((word, *map(int, numbers)))
    return log


def tried(function, *arguments):
    """What the function returns, or the line of its error."""
    try:
        return function(*arguments)
    except NoText as error:
        return error.line


def spoilt(random, text):
    """The text with one sign or one line changed, left out, twice or put in."""
    signs = list(text) if random.random() < 0.7 else text.split("\n")
    glue = "" if signs == list(text) else "\n"
    place = random.randrange(len(signs) + 1)
    more = random.choice(["", " ", "\n", "0", "1", "9", "-", "+", "_", "o", "deed", "out", "come 0", "look 1 0", "do 1 1"])
    inner = random.choice([[], [more], signs[place:place + 1] * 2, signs[place:place + 1] + [more]])
    return glue.join(signs[:place] + inner + signs[place + 1:])


class Interface(unittest.TestCase):
    def test_examples_of_the_document(self):
        samples.check_examples(self, EXAMPLES)

    def test_names_of_arguments(self):
        samples.check_interface(self, "oldsights.texts", {
            "book_text": ["book"],
            "log_text": ["book", "log"],
            "read_book": ["text"],
            "log_read": ["book", "text"],
        })

    def test_by_name(self):
        same(self, book_text(book=MAIL), MAIL_TEXT)
        same(self, log_text(log=LOG, book=MAIL), LOG_LINES)
        same(self, read_book(text=MAIL_TEXT), MAIL)
        same(self, log_read(text=LOG_LINES, book=MAIL), LOG)

    def test_errors(self):
        books = (NoBook, samples.WRONG_BOOKS)
        samples.check_errors(self, book_text, [MAIL], [books])
        samples.check_errors(self, log_text, [MAIL, LOG], [books, (NoLog, samples.WRONG_LOGS)])
        texts = ["\n", "come 1", "come 0\n", "states 3", " ", "come 0\ncome 0\ncome -1"]
        samples.check_errors(self, log_read, [MAIL, LOG_LINES], [books, (NoText, texts)])
        samples.check_errors(self, read_book, [MAIL_TEXT], [(NoText, texts + [""])])

    def test_nothing_changes(self):
        samples.check_stays(self, book_text, [MAIL])
        samples.check_stays(self, log_text, [MAIL, LOG])
        samples.check_stays(self, log_text, [MAIL, []])
        samples.check_stays(self, read_book, [MAIL_TEXT])
        samples.check_stays(self, log_read, [MAIL, LOG_LINES])
        samples.check_stays(self, log_read, [MAIL, ""])

    def test_the_error_has_its_line(self):
        with self.assertRaises(NoText) as caught:
            read_book("states 3\nout 1 1 1\ndeed - 3 -")
        self.assertEqual(vars(caught.exception), {"line": 3})


class Written(unittest.TestCase):
    def test_books(self):
        same(self, book_text(MAIL), MAIL_TEXT)
        same(self, book_text(LEAST), "states 1\ndeed -")
        same(self, book_text(LOOP), "states 1\ndeed 0\nout 0")
        same(self, book_text(LINE), "states 10" + ("\ndeed" + " -" * 10) * 9 + "\nout 1 2 3 4 5 6 7 8 9 -")

    def test_logs(self):
        for log in [LOG, tuple(LOG)]:
            same(self, log_text(MAIL, log), LOG_LINES)
        for log in [[], ()]:
            same(self, log_text(MAIL, log), "")
        same(self, log_text(MAIL, [("look", 0, 0)]), "look 0 0")

    def test_any_book(self):
        for book in samples.many_books(300, 10, 10) + [MAIL, LEAST, LOOP, LINE, RING]:
            text = book_text(book)
            same(self, read_book(text), book)
            same(self, plain_read_book(text), book)

    def test_any_log(self):
        random = Random(80)
        for book in samples.many_books(100, 4, 4) + samples.many_books(20, 10, 10) + [MAIL, LEAST, LOOP, LINE, RING]:
            for length in [0, 1, 7, 200]:
                log = samples.some_log(random, book, length) if samples.deeds_in(book) else []
                text = log_text(book, log)
                same(self, text, "\n".join(" ".join(map(str, entry)) for entry in log))
                same(self, log_read(book, text), log)


class ReadBooks(unittest.TestCase):
    def test_first_lines(self):
        for first in ["", "states", "states ", "states 0", "states 11", "states 99", "states -1", "states +3", "states 03",
                      "states  3", "states 3 ", " states 3", "states 3 3", "States 3", "state 3", "statess 3", "3",
                      "states three", "states -", "states 3.", "states 1_0", "states 0x3", "states 3-", "states3",
                      "states " + "0" * 30 + "3", "states " + "9" * 31, "states " + "1" * 3000, "out 1 1 1",
                      "states ten", "states 3\t"]:
            for rest in ["", "\nout 1 1 1", "\n", "\nwrong"]:
                same(self, tried(read_book, first + rest), 1)

    def test_the_empty_string(self):
        same(self, tried(read_book, ""), 1)
        same(self, tried(read_book, "\n"), 1)

    def test_kinds(self):
        for line in ["", "out", "out ", "out 0", "out 0 1 2", "out 0  1", "out 0 1 ", " out 0 1", "Out 0 1", "in 0 1",
                     "deeds 0 1", "deed 0 2", "deed 0 -1", "deed 0 +1", "deed 0 01", "deed 00 1", "deed - --", "deed 0 _",
                     "deed 0 None", "deed 0 x", "deed 0\t1", "outdeed 0 1", "0 1", "- - -", "states 2", "out 0 - -",
                     "deed -0 1", "deed 0 " + "0" * 30, "deed 0 " + "0" * 31, "deed 0 " + "1" * 3900, "deed 0 1."]:
            same(self, tried(read_book, "states 2\n" + line), 2)
            same(self, tried(read_book, "states 2\nout 0 -\n" + line), 3)
            same(self, tried(read_book, "states 2\nout 0 -\n" + line + "\nwrong"), 3)
            same(self, tried(read_book, "states 2\n" + line + "\nout 0 -" * 11), 2)

    def test_each_state_has_an_entry(self):
        for many in range(1, 11):
            for entries in range(13):
                text = f"states {many}\ndeed" + f" {many - 1}" * entries
                wanted = (many, (("deed", (many - 1,) * many),)) if entries == many else 2
                same(self, tried(read_book, text), wanted)
                same(self, tried(read_book, f"states {many}\nout" + f" {many}" * many), 2)

    def test_a_line_feed_at_the_end(self):
        same(self, tried(read_book, MAIL_TEXT + "\n"), 5)
        same(self, tried(read_book, MAIL_TEXT + "\n\n"), 5)
        same(self, tried(read_book, MAIL_TEXT.replace("\n", "\n\n")), 2)
        same(self, tried(read_book, "\n" + MAIL_TEXT), 1)
        same(self, tried(read_book, "states 3\n"), 2)

    def test_no_kind_or_too_many(self):
        for many in range(1, 11):
            same(self, tried(read_book, f"states {many}"), 2)
        same(self, read_book("states 1" + "\nout -" * 10), (1, (("out", (None,)),) * 10))
        for kinds in [11, 12, 30]:
            same(self, tried(read_book, "states 1" + "\nout -" * kinds), kinds + 2)
        # If one cannot stand, it is this one, whichever it is.
        same(self, tried(read_book, "states 1" + "\nout -" * 11 + "\n"), 13)
        same(self, tried(read_book, "states 1" + "\nout -" * 5 + "\nout 1" + "\nout -" * 6), 7)

    def test_any_text(self):
        random = Random(81)
        count = [0, 0]
        for book in samples.many_books(1000, 10, 10):
            text = spoilt(random, book_text(book))
            wanted = plain_read_book(text)
            same(self, tried(read_book, text), wanted)
            count[isinstance(wanted, int)] += 1
        self.assertGreater(min(count), 50)


class ReadLogs(unittest.TestCase):
    def test_no_line(self):
        for book in [MAIL, LEAST, RING]:
            same(self, log_read(book, ""), [])

    def test_lines(self):
        for line in ["", " ", "come", "come ", "come 1", "come 3", "come -1", "come 00", "come 0 ", " come 0", "come  0",
                     "come 0 0", "Come 0", "comes 0", "come +0", "come x", "come -", "come None", "come True",
                     "look", "look 1", "look 1 ", "look 1 0 0", "look 100 0", "look 1 1001", "look -1 0", "look 1 -1",
                     "look 01 0", "look 1 00", "look 1 010", "look  1 0", "look 1  0", "look 1 0 ", "look - 0", "look 1 -",
                     "do", "do 1", "do 1 0", "do 1 3", "do 1 1 1", "do 100 1", "do 1 01", "do 1 -", "do 1\t1", "see 1 1",
                     "1 1", "do 1 " + "0" * 30 + "1", "look 1 " + "0" * 31, "look 1 " + "9" * 31, "come " + "1" * 3900,
                     "look " + "1" * 3900 + " 0", "come 0.", "come 0_0", "states 1", "come 0 look 1 0"]:
            same(self, tried(log_read, MAIL, line) if line else 1, 1)
            same(self, tried(log_read, MAIL, "come 0\n" + line), 2)
            same(self, tried(log_read, MAIL, "come 0\nlook 5 0\n" + line + "\ndo 5 1"), 3)
            same(self, tried(log_read, MAIL, "come 0\n" + line + "\n" + line), 2)

    def test_greatest_numbers(self):
        same(self, log_read(RING, "look 99 1000\ndo 99 8\ncome 9"), [("look", 99, 1000), ("do", 99, 8), ("come", 9)])
        same(self, log_read(RING, "look 0 0\ndo 0 0\ncome 1"), [("look", 0, 0), ("do", 0, 0), ("come", 1)])
        for line in ["look 100 0", "look 0 1001", "do 100 0", "do 0 9", "do 0 10", "come 8", "come 10"]:
            same(self, tried(log_read, RING, line), 1)

    def test_line_feeds(self):
        same(self, tried(log_read, MAIL, "\n"), 1)
        same(self, tried(log_read, MAIL, "come 0\n"), 2)
        same(self, tried(log_read, MAIL, "\ncome 0"), 1)
        same(self, tried(log_read, MAIL, "come 0\n\ncome 0"), 2)
        same(self, tried(log_read, MAIL, "come 0\ncome 0\n\n"), 3)

    def test_a_list_of_tuples(self):
        for text in ["", "come 0", LOG_LINES]:
            found = log_read(MAIL, text)
            self.assertIs(type(found), list)
            self.assertTrue(all(type(entry) is tuple for entry in found))

    def test_what_need_not_be_possible(self):
        # A deed without a sight and what cannot come are entries of a log, too.
        same(self, log_read(TALK, "do 0 1\ncome 0\ndo 99 1"), [("do", 0, 1), ("come", 0), ("do", 99, 1)])
        same(self, log_read(LINE, "come 9\n" * 60 + "come 9"), [("come", 9)] * 61)

    def test_any_text(self):
        random = Random(82)
        count = [0, 0]
        for book in [MAIL, RING, LINE, LOOP, LEAST, TALK] * 200:
            text = log_text(book, samples.some_log(random, book, random.randrange(1, 12)))
            text = spoilt(random, text)
            wanted = plain_log_read(book, text)
            same(self, tried(log_read, book, text), wanted)
            count[isinstance(wanted, int)] += 1
        self.assertGreater(min(count), 100)


if __name__ == "__main__":
    unittest.main()
