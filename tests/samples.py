"""Books, wrong things and plain second readings of the document, for the tests."""

from itertools import product
from random import Random

MAIL = (3, (("out", (1, 1, 1)), ("deed", (None, 0, None)), ("deed", (2, 2, None))))
MAIL_PAGE = ((), (0, 1), (0, 1))
MAIL_NONE = ((), (), ())
LEAST = (1, (("deed", (None,)),))
LOOP = (1, (("deed", (0,)), ("out", (0,))))

# A ring of ten states, and ten kinds: kind k leads k states on, the even ones are deeds.
RING = (10, tuple(("deed" if k % 2 == 0 else "out", tuple((s + k) % 10 for s in range(10))) for k in range(10)))
# Ten states in a line: only the last kind leads on.
LINE = (10, tuple(("deed", (None,) * 10) for _ in range(9)) + (("out", tuple(range(1, 10)) + (None,)),))

BIG = 10 ** 29
# No number here can stand for a state, a kind, a helper or a late look.
NO_NUMBERS = [True, False, None, -1, -BIG, BIG, "", "0", "1", (), [], (0,), [0], ((0,),), [[[]]], "out"]


def nested(depth, inner):
    """The thing, so deep in tuples and lists by turns."""
    for k in range(depth):
        inner = (inner,) if k % 2 else [inner]
    return inner


WRONG_BOOKS = NO_NUMBERS + [
    0,
    1,
    list(MAIL),
    MAIL[:1],
    MAIL + (0,),
    MAIL[1],
    (True, (("out", (0,)),)),
    (1, (("out", (False,)),)),
    (1, (("out", (True,)),)),
    (2, (("out", (True, 1)),)),
    (0, (("out", ()),)),
    (0, ()),
    (11, (("out", (0,) * 11),)),
    (-1, (("out", ()),)),
    (BIG, (("out", (0,)),)),
    ("1", (("out", (0,)),)),
    (None, (("out", (0,)),)),
    ((1,), (("out", (0,)),)),
    (1, ()),
    (1, []),
    (1, None),
    (1, 1),
    (1, "out"),
    (1, (("out", (0,)),) * 11),
    (1, [("out", (0,))]),
    (1, (["out", (0,)],)),
    (1, (("out", [0]),)),
    (1, (("out", (0,), 0),)),
    (1, (("out",),)),
    (1, ((),)),
    (1, ("out", (0,))),
    (1, (None,)),
    (1, (("Out", (0,)),)),
    (1, (("in", (0,)),)),
    (1, ((0, (0,)),)),
    (1, ((None, (0,)),)),
    (1, ((["out"], (0,)),)),
    (1, ((("out",), (0,)),)),
    (1, (("outdeed", (0,)),)),
    (1, (("", (0,)),)),
    (1, (("out", ()),)),
    (1, (("out", (0, 0)),)),
    (2, (("out", (0, 1)), ("deed", (0,)))),
    (2, (("out", (0, 2)),)),
    (2, (("out", (0, -1)),)),
    (2, (("out", (0, BIG)),)),
    (2, (("out", (0, "1")),)),
    (2, (("out", (0, "-")),)),
    (2, (("out", (0, (1,))),)),
    (2, (("out", (0, [])),)),
    (2, (("out", "01"),)),
    (1, (("out", None),)),
    (1, (("out", 0),)),
    nested(20, MAIL),
    nested(20, 0),
    (nested(18, 1), nested(18, 1)),
    (1, ((nested(16, "out"), (0,)),)),
]

# Wrong for mail, and (but for its numbers of kinds) for any book.
WRONG_ROWS = [True, False, None, 0, 1, BIG, "", "0", "012"] + [
    [3], [-1], [BIG], [-BIG], [True], [False], [None], ["0"], [""], [[0]], [(0,)], [[]], [()],
    (3,), (-1,), (True,), (False,), (None,), ("0",), ((0,),), ([0],),
    [0, 1, 3], [0, 1, True], (0, 1, False), [0] * 59 + [3], nested(20, 0), nested(1, [0]),
]

WRONG_MARKS = NO_NUMBERS + [
    0,
    [(), (), ()],
    ((), ()),
    ((), (), (), ()),
    ((0,), (), ()),
    ((), [], ()),
    ((), [0], ()),
    ([], (), ()),
    ((), (1, 0), ()),
    ((), (0, 0), ()),
    ((), (0, 1, 1), ()),
    ((), (), (0, 2, 1)),
    ((), (3,), ()),
    ((), (-1,), ()),
    ((), (BIG,), ()),
    ((), (True,), ()),
    ((), (False,), ()),
    ((), (0, True), ()),
    ((), (False, 1), ()),
    ((), (None,), ()),
    ((), ("0",), ()),
    ((), ((0,),), ()),
    ((), ([],), ()),
    ((), (0, None), ()),
    (None, (), ()),
    ((), None, ()),
    ((), 0, ()),
    ((), "", ()),
    ("", "", ""),
    (((),), ((),), ((),)),
    nested(20, MAIL_NONE),
]

WRONG_DEEDS = NO_NUMBERS + [0, 3]
WRONG_STATES = NO_NUMBERS + [3]
WRONG_OUTS = NO_NUMBERS + [1, 2, 3]
WRONG_HELPERS = NO_NUMBERS + [100]
WRONG_LATES = NO_NUMBERS + [1001]

WRONG_ENTRIES = NO_NUMBERS + [
    0,
    ["come", 0],
    ["look", 1, 0],
    ["do", 1, 1],
    ("come",),
    ("come", 0, 0),
    ("look", 1),
    ("look", 1, 0, 0),
    ("do", 1),
    ("do", 1, 1, 1),
    ("do",),
    ("Come", 0),
    ("comes", 0),
    ("", 0),
    (0, 0),
    (None, 0),
    (True, 0, 0),
    (["come"], 0),
    (("look",), 1, 0),
    ("come", 0, None),
    ("do", 0),
    ("see", 1, 0),
    ("see", 1, 1),
    ("Do", 1, 1),
    ("come", 1, 1),
    ("", 1, 1),
    "come 0",
    nested(18, ("come", 0)),
]
WRONG_ENTRIES += [("come", k) for k in WRONG_OUTS]
WRONG_ENTRIES += [("look", h, 0) for h in WRONG_HELPERS] + [("look", 1, late) for late in WRONG_LATES]
WRONG_ENTRIES += [("do", h, 1) for h in WRONG_HELPERS] + [("do", 1, d) for d in WRONG_DEEDS]

WRONG_LOGS = [True, False, None, 0, 1, BIG, "", "come 0", ("come", 0), ["look", 1, 0]]
WRONG_LOGS += [[entry] for entry in WRONG_ENTRIES] + [(entry,) for entry in WRONG_ENTRIES]
WRONG_LOGS += [[("come", 0)] * 199 + [("come", 1)], nested(18, [("come", 0)])]


def some_book(random, most_states, most_kinds):
    """A book; the seed of the random numbers is fixed, so each run has the same ones."""
    many = random.randint(1, most_states)
    kinds = []
    for _ in range(random.randint(1, most_kinds)):
        steps = tuple(random.choice([None] + list(range(many))) for _ in range(many))
        kinds.append((random.choice(["out", "deed"]), steps))
    return (many, tuple(kinds))


def some_marks(random, book):
    """Marks of the book."""
    numbers = range(len(book[1]))
    chance = random.choice([0.1, 0.3, 0.6])
    return tuple(tuple(k for k in numbers if who == "deed" and random.random() < chance) for who, _ in book[1])


def some_log(random, book, length):
    """A log of the book."""
    log = []
    outs = [k for k, kind in enumerate(book[1]) if kind[0] == "out"]
    deeds = [k for k, kind in enumerate(book[1]) if kind[0] == "deed"]
    helpers = [0, 1, 99]
    while len(log) < length:
        word = random.choice(["come", "come", "look", "do", "do"])
        if word == "look":
            log.append(("look", random.choice(helpers), random.choice([0, 0, 0, 1, 2, 3, 7, 1000])))
        elif word == "come" and outs:
            log.append(("come", random.choice(outs)))
        elif word == "do" and deeds:
            log.append(("do", random.choice(helpers), random.choice(deeds)))
    return log


def many_books(count, most_states=4, most_kinds=4):
    """So many books, the same ones in each run."""
    random = Random(20)
    return [some_book(random, most_states, most_kinds) for _ in range(count)]


def plain_led(book, state, row):
    """Where the row leads, read once more from the document."""
    if len(row) == 0:
        return state
    steps = book[1][row[0]][1]
    return None if steps[state] is None else plain_led(book, steps[state], row[1:])


def plain_come_to(book, state):
    """All rows, the shorter ones first, of those with as many entries the lesser first: the first one to each."""
    found = {}
    for length in range(book[0]):
        for row in product(range(len(book[1])), repeat=length):
            to = plain_led(book, state, row)
            if to is not None and to not in found:
                found[to] = list(row)
    return sorted(found.items())


def plain_reading(book, page, checks, log):
    """What read_log and faults_in tell: each sight is kept with the talk, as pairs (kind, state ahead of it)."""
    talk, now, sights, told, faults = [], 0, {}, [], []
    for place, entry in enumerate(log):
        word, *rest = entry
        if word == "come":
            to = book[1][rest[0]][1][now]
            if to is not None:
                talk, now = talk + [(rest[0], now)], to
            told.append(to)
        elif word == "look":
            kept = talk[:len(talk) - rest[1]] if rest[1] <= len(talk) else []
            seen = talk[len(kept)][1] if len(kept) < len(talk) else now
            sights[rest[0]] = (len(kept), seen)
            told.append(seen)
        else:
            h, d = rest
            steps = book[1][d][1]
            good = h in sights and steps[sights[h][1]] is not None and steps[now] is not None
            since = [k for k, _ in talk[sights[h][0]:]] if h in sights else []
            good = good and not set(checks[d]) & set(since)
            if good:
                if set(page[d]) & set(since):
                    faults.append(place)
                talk, now = talk + [(d, now)], steps[now]
                sights[h] = (len(talk), now)
            told.append(good)
    return told, faults
