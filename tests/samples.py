"""Books, wrong things and plain second readings of the document, for the tests."""

import inspect
from copy import deepcopy
from doctest import DocTestParser, DocTestRunner
from importlib import import_module
from itertools import combinations, product
from random import Random

MAIL = (3, (("out", (1, 1, 1)), ("deed", (None, 0, None)), ("deed", (2, 2, None))))
MAIL_PAGE = ((), (0, 1), (0, 1))
MAIL_NONE = ((), (), ())
LEAST = (1, (("deed", (None,)),))
LOOP = (1, (("deed", (0,)), ("out", (0,))))

# A ring of ten states, and ten kinds: kind k leads k states on, the even ones are deeds.
RING = (10, tuple(("deed" if k % 2 == 0 else "out", tuple((s + k) % 10 for s in range(10))) for k in range(10)))
# Ten states in a line: only the last kind leads on.
LINE = (10, tuple(("deed", (None,) * 10) for _ in range(9)) + (("out", tuple(range(1, 10)) + (None,)),))

BIG = 10 ** 29
# No number here can stand for a state, a kind, a helper or a late look.
NO_NUMBERS = [True, False, None, -1, -BIG, BIG, "", "0", "1", (), [], (0,), [0], ((0,),), [[[]]], "out"]


def nested(depth, inner):
    """The thing, so deep in tuples and lists by turns."""
    for k in range(depth):
        inner = (inner,) if k % 2 else [inner]
    return inner


WRONG_BOOKS = NO_NUMBERS + [
    0,
    1,
    list(MAIL),
    MAIL[:1],
    MAIL + (0,),
    MAIL[1],
    (True, (("out", (0,)),)),
    (1, (("out", (False,)),)),
    (1, (("out", (True,)),)),
    (2, (("out", (True, 1)),)),
    (0, (("out", ()),)),
    (0, ()),
    (11, (("out", (0,) * 11),)),
    (-1, (("out", ()),)),
    (BIG, (("out", (0,)),)),
    ("1", (("out", (0,)),)),
    (None, (("out", (0,)),)),
    ((1,), (("out", (0,)),)),
    (1, ()),
    (1, []),
    (1, None),
    (1, 1),
    (1, "out"),
    (1, (("out", (0,)),) * 11),
    (1, [("out", (0,))]),
    (1, (["out", (0,)],)),
    (1, (("out", [0]),)),
    (1, (("out", (0,), 0),)),
    (1, (("out",),)),
    (1, ((),)),
    (1, ("out", (0,))),
    (1, (None,)),
    (1, (("Out", (0,)),)),
    (1, (("in", (0,)),)),
    (1, ((0, (0,)),)),
    (1, ((None, (0,)),)),
    (1, ((["out"], (0,)),)),
    (1, ((("out",), (0,)),)),
    (1, (("outdeed", (0,)),)),
    (1, (("", (0,)),)),
    (1, (("out", ()),)),
    (1, (("out", (0, 0)),)),
    (2, (("out", (0, 1)), ("deed", (0,)))),
    (2, (("out", (0, 2)),)),
    (2, (("out", (0, -1)),)),
    (2, (("out", (0, BIG)),)),
    (2, (("out", (0, "1")),)),
    (2, (("out", (0, "-")),)),
    (2, (("out", (0, (1,))),)),
    (2, (("out", (0, [])),)),
    (2, (("out", "01"),)),
    (1, (("out", None),)),
    (1, (("out", 0),)),
    nested(20, MAIL),
    nested(20, 0),
    (nested(18, 1), nested(18, 1)),
    (1, ((nested(16, "out"), (0,)),)),
]

# Wrong for mail, and (but for its numbers of kinds) for any book.
WRONG_ROWS = [True, False, None, 0, 1, BIG, "", "0", "012"] + [
    [3], [-1], [BIG], [-BIG], [True], [False], [None], ["0"], [""], [[0]], [(0,)], [[]], [()],
    (3,), (-1,), (True,), (False,), (None,), ("0",), ((0,),), ([0],),
    [0, 1, 3], [0, 1, True], (0, 1, False), [0] * 59 + [3], nested(20, 0), nested(1, [0]),
]

WRONG_MARKS = NO_NUMBERS + [
    0,
    [(), (), ()],
    ((), ()),
    ((), (), (), ()),
    ((0,), (), ()),
    ((), [], ()),
    ((), [0], ()),
    ([], (), ()),
    ((), (1, 0), ()),
    ((), (0, 0), ()),
    ((), (0, 1, 1), ()),
    ((), (), (0, 2, 1)),
    ((), (3,), ()),
    ((), (-1,), ()),
    ((), (BIG,), ()),
    ((), (True,), ()),
    ((), (False,), ()),
    ((), (0, True), ()),
    ((), (False, 1), ()),
    ((), (None,), ()),
    ((), ("0",), ()),
    ((), ((0,),), ()),
    ((), ([],), ()),
    ((), (0, None), ()),
    (None, (), ()),
    ((), None, ()),
    ((), 0, ()),
    ((), "", ()),
    ("", "", ""),
    (((),), ((),), ((),)),
    nested(20, MAIL_NONE),
]

WRONG_WAITING = [True, False, None, 0, 1, BIG, "", "0", "012"] + [
    [3], [-1], [BIG], [True], [False], [None], ["0"], [""], [[0]], [(0,)], [[]], (3,), (-1,), (True,), (None,), ("0",),
    ((0,),), ([0],), [0, 1, 2, 3], (0, 1, True), [0, False], [0] * 59 + [3], nested(20, 0), nested(1, [0]),
]

WRONG_DEEDS = NO_NUMBERS + [0, 3]
WRONG_STATES = NO_NUMBERS + [3]
WRONG_OUTS = NO_NUMBERS + [1, 2, 3]
WRONG_HELPERS = NO_NUMBERS + [100]
WRONG_LATES = NO_NUMBERS + [1001]

WRONG_ENTRIES = NO_NUMBERS + [
    0,
    ["come", 0],
    ["look", 1, 0],
    ["do", 1, 1],
    ("come",),
    ("come", 0, 0),
    ("look", 1),
    ("look", 1, 0, 0),
    ("do", 1),
    ("do", 1, 1, 1),
    ("do",),
    ("Come", 0),
    ("comes", 0),
    ("", 0),
    (0, 0),
    (None, 0),
    (True, 0, 0),
    (["come"], 0),
    (("look",), 1, 0),
    ("come", 0, None),
    ("do", 0),
    ("see", 1, 0),
    ("see", 1, 1),
    ("Do", 1, 1),
    ("come", 1, 1),
    ("", 1, 1),
    "come 0",
    nested(18, ("come", 0)),
]
WRONG_ENTRIES += [("come", k) for k in WRONG_OUTS]
WRONG_ENTRIES += [("look", h, 0) for h in WRONG_HELPERS] + [("look", 1, late) for late in WRONG_LATES]
WRONG_ENTRIES += [("do", h, 1) for h in WRONG_HELPERS] + [("do", 1, d) for d in WRONG_DEEDS]

WRONG_LOGS = [True, False, None, 0, 1, BIG, "", "come 0", ("come", 0), ["look", 1, 0]]
WRONG_LOGS += [[entry] for entry in WRONG_ENTRIES] + [(entry,) for entry in WRONG_ENTRIES]
WRONG_LOGS += [[("come", 0)] * 199 + [("come", 1)], nested(18, [("come", 0)])]


# Wrong as told trials of the deed 1 of mail.
WRONG_TOLD = [thing for thing in NO_NUMBERS if thing not in [(), []]] + [
    0, 1, "told", ([0], [0], True), [[[0], [0], True]], ([[0], [0], True],), [([0], [0])], [([0], [0], True, True)],
    [([0], [0], 1)], [([0], [0], 0)], [([0], [0], None)], [([0], [0], "True")], [([0], [0], [True])], [()], [[]],
    [(True, [0], [0])], [(([0], [0]), True)], [([0], True)], [([], [0], True)], [([0], [1], True)], [([2], [0], False)],
    [([0], [2, 2], True)], [([0], [2], False)], [((), (), False)], (([0], [0], True), ([], [], True)),
    [([0], [0], True)] * 59 + [([0], [0], 1)], nested(17, ([0], [0], True)),
]
WRONG_TOLD += [[(row, [0], True)] for row in WRONG_ROWS] + [(([0], row, False),) for row in WRONG_ROWS]


def same(test, found, wanted):
    """Equal, also in what tells numbers from True and False and lists from tuples."""
    test.assertEqual(repr(found), repr(wanted))


def lists_in(thing):
    """All list objects within the thing."""
    if not isinstance(thing, (list, tuple)):
        return []
    return [thing] * isinstance(thing, list) + [part for inner in thing for part in lists_in(inner)]


def check_examples(test, text):
    """The examples of the document, as they stand there."""
    found = []
    example = DocTestParser().get_doctest(text, {}, "DOC.md", None, 0)
    test.assertGreater(len(example.examples), 0)
    DocTestRunner().run(example, out=found.append)
    test.assertEqual("".join(found), "")


def check_interface(test, name, wanted):
    """The functions of a file stand in it, with these names of arguments."""
    for function, arguments in wanted.items():
        found = getattr(import_module(name), function)
        test.assertEqual(found.__module__, name)
        test.assertEqual(list(inspect.signature(found).parameters), arguments)


def check_errors(test, function, good, wrong):
    """Each wrong argument raises its error, also if any later one is wrong, too; wrong has a pair for each argument."""
    function(*good)
    for place, (error, things) in enumerate(wrong):
        for thing in things:
            calls = [good[:place] + [thing] + good[place + 1:]]
            for later in range(place + 1, len(wrong)):
                calls += [calls[0][:later] + [other] + good[later + 1:] for other in wrong[later][1][:4]]
            for call in calls:
                before = repr(call)
                with test.assertRaises(error, msg=before):
                    function(*call)
                test.assertEqual(repr(call), before)


def check_stays(test, function, good):
    """The arguments stay, the lists of the result are the caller's alone, and neither changes what comes later."""
    good = deepcopy(good)
    before = repr(good)
    found = function(*good)
    wanted = repr(found)
    test.assertEqual(repr(good), before)
    lists = lists_in(found)
    test.assertEqual(len({id(one) for one in lists}), len(lists))
    test.assertFalse({id(one) for one in lists} & {id(one) for one in lists_in(good)})
    again = function(*good)
    test.assertEqual(repr(again), wanted)
    for one in lists:
        one.append(5)
    test.assertEqual(repr(again), wanted)
    test.assertEqual(repr(function(*good)), wanted)
    for one in lists_in(good):
        one.clear()
    test.assertEqual(repr(again), wanted)


def some_book(random, most_states, most_kinds):
    """A book; the seed of the random numbers is fixed, so each run has the same ones."""
    many = random.randint(1, most_states)
    kinds = []
    for _ in range(random.randint(1, most_kinds)):
        steps = tuple(random.choice([None] + list(range(many))) for _ in range(many))
        kinds.append((random.choice(["out", "deed"]), steps))
    return (many, tuple(kinds))


def some_marks(random, book):
    """Marks of the book."""
    numbers = range(len(book[1]))
    chance = random.choice([0.1, 0.3, 0.6])
    return tuple(tuple(k for k in numbers if who == "deed" and random.random() < chance) for who, _ in book[1])


def some_log(random, book, length):
    """A log of the book."""
    log = []
    outs = [k for k, kind in enumerate(book[1]) if kind[0] == "out"]
    deeds = [k for k, kind in enumerate(book[1]) if kind[0] == "deed"]
    helpers = [0, 1, 99]
    while len(log) < length:
        word = random.choice(["come", "come", "look", "do", "do"])
        if word == "look":
            log.append(("look", random.choice(helpers), random.choice([0, 0, 0, 1, 2, 3, 7, 1000])))
        elif word == "come" and outs:
            log.append(("come", random.choice(outs)))
        elif word == "do" and deeds:
            log.append(("do", random.choice(helpers), random.choice(deeds)))
    return log


def many_books(count, most_states=4, most_kinds=4):
    """So many books, the same ones in each run."""
    random = Random(20)
    return [some_book(random, most_states, most_kinds) for _ in range(count)]


def with_deeds(book):
    """The book with all its kinds as deeds."""
    return (book[0], tuple(("deed", steps) for _, steps in book[1]))


def plain_led(book, state, row):
    """Where the row leads, read once more from the document."""
    if len(row) == 0:
        return state
    steps = book[1][row[0]][1]
    return None if steps[state] is None else plain_led(book, steps[state], row[1:])


def plain_come_to(book, state):
    """All rows, the shorter ones first, of those with as many entries the lesser first: the first one to each."""
    found = {}
    for length in range(book[0]):
        for row in product(range(len(book[1])), repeat=length):
            to = plain_led(book, state, row)
            if to is not None and to not in found:
                found[to] = list(row)
    return sorted(found.items())


def plain_play(book, page, checks, log):
    """A talk as a log tells it: a dict of all that can be asked of it.

    Each sight is kept with the talk as it was then, as pairs (kind, state ahead of it).
    """
    talk, now, sights, told, faults, overlooked = [], 0, {}, [], [], []
    for place, entry in enumerate(log):
        word, *rest = entry
        if word == "come":
            to = book[1][rest[0]][1][now]
            if to is not None:
                talk, now = talk + [(rest[0], now)], to
            told.append(to)
        elif word == "look":
            kept = talk[:len(talk) - rest[1]] if rest[1] <= len(talk) else []
            seen = talk[len(kept)][1] if len(kept) < len(talk) else now
            sights[rest[0]] = (len(kept), seen)
            told.append(seen)
        else:
            h, d = rest
            steps = book[1][d][1]
            good = h in sights and steps[sights[h][1]] is not None and steps[now] is not None
            since = [k for k, _ in talk[sights[h][0]:]] if h in sights else []
            good = good and not set(checks[d]) & set(since)
            if good:
                if set(page[d]) & set(since):
                    faults.append(place)
                    overlooked.append((h, d, len(talk)))
                talk, now = talk + [(d, now)], steps[now]
                sights[h] = (len(talk), now)
            told.append(good)
    return {"told": told, "faults": faults, "kinds": [k for k, _ in talk], "now": now, "sights": sights,
            "overlooked": overlooked}


def plain_reading(book, page, checks, log):
    """What read_log and faults_in tell."""
    play = plain_play(book, page, checks, log)
    return play["told"], play["faults"]


def all_tuples(numbers):
    """All tuples of the numbers, which are ascending: the shorter ones first, of those as long the lesser first."""
    return [one for size in range(len(numbers) + 1) for one in combinations(numbers, size)]


def deeds_in(book):
    """The numbers of the deeds."""
    return [k for k, kind in enumerate(book[1]) if kind[0] == "deed"]


def states_along(book, row):
    """All states that the row goes through from state 0 on, or None if one of its kinds cannot come."""
    states = [plain_led(book, 0, row[:length]) for length in range(len(row) + 1)]
    return None if None in states else states


def short_trials(book, d):
    """For each set of kinds that can be between look and deed the fewest entries of such a trial.

    It goes through all rows with a look anywhere. A shortest trial of any question goes through no state twice in one
    of its three parts (ahead, nothing forbidden yet, something forbidden), so longer rows need not be gone through.
    """
    steps = book[1][d][1]
    found = {}
    for length in range(3 * book[0] - 1):
        for row in product(range(len(book[1])), repeat=length):
            states = states_along(book, row)
            if states is not None and steps[states[-1]] is not None:
                for place in [place for place, s in enumerate(states) if steps[s] is not None]:
                    found.setdefault(frozenset(row[place:]), length)
    return found


def all_trials(book, d):
    """The same for books of any size, step by step: where the talk is, and which kinds have come since the look."""
    steps = book[1][d][1]
    found, length = {}, 0
    level = {(0, None)}
    known = set()
    while level:
        level |= {(s, frozenset()) for s, since in level if since is None and steps[s] is not None}
        level -= known
        known |= level
        for s, since in level:
            if since is not None and steps[s] is not None:
                found.setdefault(since, length)
        further = set()
        for s, since in level:
            for k, kind in enumerate(book[1]):
                if kind[1][s] is not None:
                    further.add((kind[1][s], None if since is None else since | {k}))
        level, length = further - known, length + 1
    return found


def plain_fault(trials, forbidden, checked):
    """The fewest entries of a trial that is accepted and overlooks something, or None."""
    found = [length for since, length in trials.items() if since & set(forbidden) and not since & set(checked)]
    return min(found, default=None)


def plain_least(trials, many, forbidden):
    """The least tuples of so many kinds with which there is no fault."""
    good = {one: plain_fault(trials, forbidden, one) is None for one in all_tuples(range(many))}
    return [one for one in good if good[one] and not any(good[tuple(k for k in one if k != out)] for out in one)]


def plain_covered(trials, many, some):
    """The kinds that come in no trial without some."""
    return tuple(k for k in range(many) if all(since & set(some) for since in trials if k in since))


def plain_alike(trials, many, some):
    """The tuples that refuse the same trials as some."""
    refused = {one: {since for since in trials if since & set(one)} for one in all_tuples(range(many))}
    wanted = {since for since in trials if since & set(some)}
    return [one for one in refused if refused[one] == wanted]


def plain_left(book, told):
    """The tuples that accept and refuse what is told, read once more from the document."""
    found = []
    for one in all_tuples(range(len(book[1]))):
        if all(truth is (not set(one) & set(between)) for _, between, truth in told):
            found.append(one)
    return found


def plain_fewest_left(trials, left):
    """The least number of tuples that a trial leaves at most, or None if no trial parts them."""
    found = []
    for since in trials:
        accepting = [one for one in left if not set(one) & since]
        if accepting and len(accepting) < len(left):
            found.append(max(len(accepting), len(left) - len(accepting)))
    return min(found, default=None)


def plain_is_table(book, page, checks, d, thing):
    """Whether three lists of states are a table, read once more from the document."""
    seen, plain, marked = thing
    kinds = {k: kind[1] for k, kind in enumerate(book[1])}
    good = 0 in seen
    for k, steps in kinds.items():
        good &= all(steps[s] in seen for s in seen if steps[s] is not None)
        if k not in checks[d] and k not in page[d]:
            good &= all(steps[s] in plain for s in plain if steps[s] is not None)
        if k in page[d] and k not in checks[d]:
            good &= all(steps[s] in marked for s in plain if steps[s] is not None)
        if k not in checks[d]:
            good &= all(steps[s] in marked for s in marked if steps[s] is not None)
    good &= all(s in plain for s in seen if kinds[d][s] is not None)
    return good and all(kinds[d][s] is None for s in marked)


def plain_rows(book):
    """All rows that lead from state 0 and may be the first to anything, in their order, each with its end."""
    rows = [row for length in range(book[0]) for row in product(range(len(book[1])), repeat=length)]
    return [(list(row), plain_led(book, 0, row)) for row in rows if plain_led(book, 0, row) is not None]


def plain_leaves(book, waiting, deeds, wait):
    """Whether some row of these deeds leads from the wait out of waiting."""
    rows = [row for length in range(book[0] + 1) for row in product(deeds, repeat=length)]
    ends = [plain_led(book, wait, row) for row in rows]
    return any(end is not None and end not in waiting for end in ends)


def walks(book, waiting, wait):
    """All rows of deeds from the wait, of as many deeds as there are states at most, through waiting alone."""
    found = []
    for length in range(book[0] + 1):
        for row in product(deeds_in(book), repeat=length):
            if all(plain_led(book, wait, row[:end]) in waiting for end in range(length + 1)):
                found.append(row)
    return found


def plain_settles(book, waiting):
    """("dead", row), ("round", the states to which a ring leads back) or ("ranks", ranks)."""
    rows = plain_rows(book)
    waits = {end for _, end in rows if end in waiting}
    dead = [row for row, end in rows if end in waits and all(book[1][d][1][end] is None for d in deeds_in(book))]
    if dead:
        return ("dead", dead[0])
    ways = {wait: walks(book, waiting, wait) for wait in waits}
    round_again = sorted(s for s in waits if any(row and plain_led(book, s, row) == s for row in ways[s]))
    if round_again:
        return ("round", round_again)
    return ("ranks", [max(map(len, ways[s])) if s in waits else None for s in range(book[0])])


def plain_swallowed(book, waiting):
    """The first row behind which each kind that is out is swallowed."""
    found = []
    for k in [k for k, kind in enumerate(book[1]) if kind[0] == "out"]:
        lost = [row for row, end in plain_rows(book) if book[1][k][1][end] not in [*waiting]]
        found += [(k, row) for row in lost[:1]]
    return found


def plain_staff(book, waiting):
    """The least tuples of deeds that leave each wait."""
    waits = {end for _, end in plain_rows(book) if end in waiting}
    good = {}
    for deeds in all_tuples(deeds_in(book)):
        good[deeds] = all(plain_leaves(book, waiting, deeds, wait) for wait in waits)
    return [one for one in good if good[one] and not any(good[tuple(k for k in one if k != out)] for out in one)]


def plain_stuck(book, waiting):
    """The first row to a wait that all deeds together do not leave, or None."""
    deeds = deeds_in(book)
    kept = [row for row, end in plain_rows(book) if end in waiting and not plain_leaves(book, waiting, deeds, end)]
    return kept[0] if kept else None
