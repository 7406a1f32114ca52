"""What the tests share: good things, things of any kind that are none, and how a refusal is asked for."""

import itertools
import random

from coolbook.errors import CoolError

PAGE = ("a", 5, (3, 0, -2))
BOOK = (PAGE, ("b", 0, (1,)), ("a", 6, (9, -2, 4)))
FULL = tuple(("a", hour, (hour,)) for hour in range(60))
BARRED = ("page", "most", "lot", "at", "end", "grade", "none")
BUDGET = (((4, 1), (8, 3)), 40)
GRADE = (BUDGET, (((20, 9),), 9))
TRACK = ((((), (("a", 0, 5),)),), (("b", 5, 9),))


class Bare:
    """An object of a kind that the program knows nothing of."""


class Touchy:
    """An object that can't be compared, counted, hashed or shown."""

    def refuse(self, *told):
        raise RuntimeError("touched")

    __eq__ = __ne__ = __lt__ = __le__ = __gt__ = __ge__ = refuse
    __len__ = __iter__ = __bool__ = __hash__ = __str__ = __repr__ = refuse
    __getitem__ = __contains__ = __add__ = __radd__ = __index__ = refuse


def deep(wrap, many=50_000):
    thing = wrap(1)
    for _ in range(many):
        thing = wrap(thing)
    return thing


def many_times(wrap, many=60):
    """Two to the sixtieth things, if each is counted as often as it stands there."""
    thing = wrap(1, 1)
    for _ in range(many):
        thing = wrap(thing, thing)
    return thing


def within_itself():
    thing = []
    thing.append(thing)
    return thing


def odd_things():
    """Pairs (label, thing): things that are no NAME, whole number, tuple, text or whatever else may be asked for."""
    return [
        ("none", None),
        ("truth", True),
        ("untruth", False),
        ("number with a point", 1.0),
        ("no number", float("nan")),
        ("endless", float("inf")),
        ("complex", 1 + 0j),
        ("bytes", b"a"),
        ("bytearray", bytearray(b"a")),
        ("list", ["a", 0, (1,)]),
        ("empty list", []),
        ("dict", {"a": 0}),
        ("empty dict", {}),
        ("set", {1, 2}),
        ("frozenset", frozenset((1,))),
        ("range", range(3)),
        ("iterator", iter((1, 2))),
        ("function", len),
        ("lambda", lambda: 1),
        ("class", int),
        ("module-like", Bare),
        ("object", Bare()),
        ("touchy", Touchy()),
        ("ellipsis", ...),
        ("error", ValueError("x")),
        ("slice", slice(1)),
        ("deep list", deep(lambda x: [x])),
        ("deep dict", deep(lambda x: {"a": x})),
        ("list many times over", many_times(lambda x, y: [x, y])),
        ("within itself", within_itself()),
    ]


def odd_tuples():
    """Pairs (label, thing): tuples that are neither a PAGE nor a BOOK nor WARMTHS."""
    return [
        ("deep tuple", deep(lambda x: (x,))),
        ("deep tuple of three", deep(lambda x: ("a", 0, x))),
        ("deep behind a good one", deep(lambda x: (("a", 0, (1,)), x))),
        ("tuple many times over", many_times(lambda x, y: (x, y))),
        ("three many times over", many_times(lambda x, y: ("a", x, y))),
        ("tuple with itself in it", (within_itself(),)),
        ("long tuple", (1,) * 1_000_000),
        ("tuple of a touchy one", (Touchy(),)),
        ("tuple of three touchy ones", (Touchy(), Touchy(), Touchy())),
    ]


def odd_numbers():
    return [
        ("huge", 10 ** 5000),
        ("far below", -10 ** 5000),
    ]


def odd_texts():
    return [
        ("long text", "a" * 1_000_000),
        ("many figures", "1" * 5000),
        ("other script", "\u00e9\u4e00"),
        ("half a sign", "\ud800"),
        ("no sign", "\x00"),
    ]


def anything():
    return odd_things() + odd_tuples() + odd_numbers() + odd_texts()


def refusal_of(function, *arguments):
    """The class itself of the refusal that a call ends in, None where it ends in none."""
    try:
        function(*arguments)
    except CoolError as error:
        return error.__class__
    return None


def refusals_in_order(function, arguments):
    """Pairs (class told, class due), for all ways to hand in good or bad arguments: triples (good, bad, class)."""
    for choice in itertools.product((False, True), repeat=len(arguments)):
        given = [row[1] if bad else row[0] for bad, row in zip(choice, arguments)]
        due = [row[2] for bad, row in zip(choice, arguments) if bad]
        yield refusal_of(function, *given), due[0] if due else None


def no_pages():
    """Pairs (label, thing): things that are no PAGE, those a step beside one included."""
    beside = [
        (),
        ("a",),
        ("a", 0),
        ("a", 0, (1,), 0),
        ("a", 0, (1,), None),
        ["a", 0, (1,)],
        ("a", 0, [1]),
        ("a", 0, 1),
        ("a", 0, "1"),
        ("a", 0, ()),
        ("a", 0, (1,) * 49),
        ("a", 999, (1, 1)),
        ("a", 952, (1,) * 49),
        ("a", 953, (1,) * 48),
        ("a", 1000, (1,)),
        ("a", -1, (1,)),
        ("a", -1, (1, 1, 1)),
        ("a", "0", (1,)),
        ("a", True, (1,)),
        ("a", False, (1,)),
        ("a", 0, (61,)),
        ("a", 0, (-61,)),
        ("a", 0, (True,)),
        ("a", 0, (5, False)),
        ("a", 0, (5, 5, True, 5)),
        ("a", 0, (0,) * 47 + (False,)),
        ("a", 0, (1, 1.0)),
        ("a", 0, (1, None)),
        ("a", 0, (1, "1")),
        ("a", 0, (1, (1,))),
        ("a", 0, ((1,),)),
        ("", 0, (1,)),
        ("abcdefg", 0, (1,)),
        ("A", 0, (1,)),
        ("a1", 0, (1,)),
        ("a ", 0, (1,)),
        ("a\n", 0, (1,)),
        (b"a", 0, (1,)),
        (1, 0, (1,)),
        (0, "a", (1,)),
        ((1,), 0, "a"),
        "a",
        "abc",
        5,
        {"a": 0, "b": 1, "c": 2},
        PAGE[:2],
        (PAGE,),
        BOOK,
    ]
    beside += [(word, 0, (1,)) for word in BARRED]
    rows = [(f"beside {at}", thing) for at, thing in enumerate(beside)]
    odd = odd_things() + odd_tuples() + odd_numbers() + odd_texts()
    rows += odd
    rows += [(f"room {label}", (thing, 0, (1,))) for label, thing in odd]
    rows += [(f"hour {label}", ("a", thing, (1,))) for label, thing in odd]
    rows += [(f"warmths {label}", ("a", 0, thing)) for label, thing in odd]
    rows += [(f"warmth {label}", ("a", 0, (1, thing))) for label, thing in odd]
    rows += [(f"fourth {label}", ("a", 0, (1,), thing)) for label, thing in odd]
    return rows


def no_books():
    """Pairs (label, thing): things that are no BOOK."""
    beside = [
        [],
        [PAGE],
        PAGE,
        {},
        "",
        None,
        0,
        (PAGE, list(PAGE)),
        (PAGE, None),
        (None,),
        ((),),
        ((PAGE,),),
        (PAGE, BOOK),
        (PAGE, 0),
        FULL + (PAGE,),
        (PAGE,) * 61,
        FULL[:59] + (("a", 0, ()),),
        (("a", 0, (True,)),),
        (PAGE, ("a", 0, (1, False))),
    ]
    rows = [(f"beside {at}", thing) for at, thing in enumerate(beside)]
    rows += odd_things() + odd_tuples() + odd_numbers() + odd_texts()
    rows += [(f"one {label}", (thing,)) for label, thing in no_pages()]
    rows += [(f"behind {label}", (PAGE, thing)) for label, thing in no_pages()]
    rows += [(f"ahead {label}", (thing, PAGE)) for label, thing in no_pages()]
    return rows


def no_names():
    rows = [(repr(word), word) for word in BARRED + ("", "abcdefg", "A", "a1", "a b", "a\n")]
    return rows + odd_things() + odd_tuples() + odd_numbers() + odd_texts()


def no_hours():
    rows = [(str(hour), hour) for hour in (-1, 1000, 1001, -1000)] + [("text", "5"), ("tuple", (5,))]
    return rows + odd_things() + odd_tuples() + odd_numbers() + odd_texts()


def table_of(book):
    """By (room, hour) what a BOOK tells, told page by page: a second way to the same, for the tests."""
    table = {}
    for room, first, warmths in book:
        for at, warmth in enumerate(warmths):
            table[room, first + at] = warmth
    return table


def some_page(chance):
    first = chance.choice((0, 1, 2, 5, 8, 990, 998, 999, chance.randrange(1000)))
    many = min(chance.choice((1, 2, 3, 9, 48)), 1000 - first)
    return (chance.choice("abc"), first, tuple(chance.randint(-2, 2) for _ in range(many)))


def some_books():
    chance = random.Random(7)
    return [tuple(some_page(chance) for _ in range(chance.randrange(13))) for _ in range(60)] + [(), FULL]


def no_budgets():
    """Pairs (label, thing): things that are no BUDGET, those a step beside one included."""
    beside = [
        (),
        (((4, 1),),),
        (((4, 1),), 40, 40),
        (((4, 1),), 40, None),
        [((4, 1),), 40],
        ([(4, 1)], 40),
        (([4, 1],), 40),
        (((4, 1), [8, 3]), 40),
        ((), 40),
        ((4, 1), 40),
        (4, 1),
        (40, ((4, 1),)),
        (tuple((at, 1) for at in range(6)), 40),
        (tuple((at, 1) for at in range(1000)), 40),
        (((-61, 1),), 40),
        (((61, 1),), 40),
        (((4, 1), (61, 1)), 40),
        (((4, 1), (4, 1)), 40),
        (((4, 1), (4, 2)), 40),
        (((4, 1), (3, 1)), 40),
        (((1, 1), (2, 1), (2, 1)), 40),
        (((1, 1), (2, 1), (0, 1)), 40),
        (((1, 1), (5, 1), (3, 1), (6, 1)), 40),
        (((4, -1),), 40),
        (((4, 10),), 40),
        (((4, 1), (8, 10)), 40),
        (((4, 1), (8, -1)), 40),
        (((4, 1),), -1),
        (((4, 1),), 10_000),
        (((4, 1),), None),
        (((4, 1),), "40"),
        (((4, 1),), (40,)),
        (((4,),), 40),
        (((),), 40),
        (((4, 1, 1),), 40),
        (((4, 1), (8,)), 40),
        (((4, 1), (8, 3, 0)), 40),
        (((4, 1), 8), 40),
        (((4, 1), None), 40),
        (((True, 1),), 40),
        (((False, 1),), 40),
        (((4, True),), 40),
        (((4, False),), 40),
        (((0, 1), (True, 1)), 40),
        (((4, 1), (8, True)), 40),
        (((4, 1), (8, False)), 40),
        (((4, 1),), True),
        (((4, 1),), False),
        (("41",), 40),
        (("4", "1"), 40),
        "ab",
        GRADE,
        (BUDGET,),
    ]
    rows = [(f"beside {at}", thing) for at, thing in enumerate(beside)]
    odd = anything()
    rows += odd
    rows += [(f"rates {label}", (thing, 40)) for label, thing in odd]
    rows += [(f"most {label}", (((4, 1),), thing)) for label, thing in odd]
    rows += [(f"rate {label}", ((thing,), 40)) for label, thing in odd]
    rows += [(f"rate behind {label}", (((4, 1), thing), 40)) for label, thing in odd]
    rows += [(f"above {label}", (((4, 1), (thing, 1)), 40)) for label, thing in odd]
    rows += [(f"units {label}", (((4, 1), (8, thing)), 40)) for label, thing in odd]
    rows += [(f"third {label}", (((4, 1),), 40, thing)) for label, thing in odd]
    return rows


def no_grades():
    """Pairs (label, thing): things that are no GRADE."""
    beside = [
        (),
        [BUDGET],
        BUDGET,
        (BUDGET,) * 4,
        (BUDGET,) * 1000,
        (BUDGET, list(BUDGET)),
        (BUDGET, GRADE),
        (GRADE,),
        (BUDGET, None),
        (BUDGET, 0),
        (BUDGET, BUDGET, ()),
        "abc",
        {0: BUDGET},
    ]
    rows = [(f"beside {at}", thing) for at, thing in enumerate(beside)]
    rows += anything()
    budgets = no_budgets()
    rows += [(f"one {label}", (thing,)) for label, thing in budgets]
    rows += [(f"behind {label}", (BUDGET, thing)) for label, thing in budgets]
    rows += [(f"ahead {label}", (thing, BUDGET)) for label, thing in budgets]
    rows += [(f"last {label}", (BUDGET, BUDGET, thing)) for label, thing in budgets]
    return rows


def no_warmths():
    rows = [(str(warmth), warmth) for warmth in (-61, 61, 62, 1000)] + [("text", "5"), ("tuple", (5,))]
    return rows + anything()


def some_budget(chance):
    """A BUDGET with few ABOVES near one another, so that two of them are often alike."""
    aboves = sorted(chance.sample(range(-3, 4), chance.randint(1, 5)))
    return (tuple((above, chance.choice((0, 0, 1, 2, 9))) for above in aboves), chance.choice((0, 3, 9, 20, 60)))


def some_grade(chance):
    return tuple(some_budget(chance) for _ in range(chance.randint(1, 3)))


def lot(begin, end, *parts, room="a"):
    """A TRACK of a single STAY."""
    return (parts, ((room, begin, end),))


def nested(many, wide=1):
    """So many things like TRACKS within one another, each as often as told in the one around it."""
    thing = lot(0, 1)
    for begin in range(1, many):
        thing = lot(begin, begin + 1, *(thing,) * wide)
    return thing


def spread(*inner):
    """A thing like a TRACK with a part for each number, that has so many parts itself."""
    return lot(2, 3, *(lot(1, 2, *(lot(0, 1),) * many) for many in inner))


def no_stays():
    """Pairs (label, thing): things that are no STAY, those a step beside one included."""
    beside = [
        (),
        ("a",),
        ("a", 0),
        ("a", 0, 1, 2),
        ["a", 0, 1],
        ("a", 0, 0),
        ("a", 5, 5),
        ("a", 5, 4),
        ("a", 5, 0),
        ("a", -1, 1),
        ("a", 0, 1001),
        ("a", 999, 1001),
        ("a", 999, 999),
        ("a", 1000, 1000),
        ("a", 1000, 1001),
        ("a", 0, -1),
        ("a", False, 1),
        ("a", 0, True),
        ("a", True, 2),
        ("a", "0", 1),
        ("a", 0, "1"),
        ("", 0, 1),
        ("abcdefg", 0, 1),
        ("A", 0, 1),
        (0, 1, "a"),
        (0, "a", 1),
        (("a", 0, 1),),
        PAGE,
        "abc",
    ]
    beside += [(word, 0, 1) for word in BARRED]
    rows = [(f"beside {at}", thing) for at, thing in enumerate(beside)]
    odd = anything()
    rows += odd
    rows += [(f"room {label}", (thing, 0, 1)) for label, thing in odd]
    rows += [(f"from {label}", ("a", thing, 1)) for label, thing in odd]
    rows += [(f"to {label}", ("a", 0, thing)) for label, thing in odd]
    rows += [(f"fourth {label}", ("a", 0, 1, thing)) for label, thing in odd]
    return rows


def no_tracks():
    """Pairs (label, thing): things that are no TRACK, those a step beside one included."""
    stay, good = ("a", 5, 6), lot(0, 5)
    beside = [
        (),
        ((),),
        ((), (stay,), ()),
        ((), (stay,), None),
        [(), (stay,)],
        ([], (stay,)),
        ((), [stay]),
        ((), (list(stay),)),
        ((stay,), ()),
        ((), ()),
        ((), stay),
        (None, (stay,)),
        (0, (stay,)),
        ("", (stay,)),
        ((), None),
        ((), tuple(("a", at, at + 1) for at in range(11))),
        ((), tuple(("a", at, at + 1) for at in range(999))),
        ((), (("a", 0, 5), ("a", 6, 7))),
        ((), (("a", 0, 5), ("a", 4, 7))),
        ((), (("a", 0, 5), ("b", 0, 5))),
        ((), (("a", 5, 6), ("b", 0, 5))),
        ((), (("a", 0, 5), ("b", 5, 7), ("b", 8, 9))),
        ((), (("a", 0, 5), ("b", 5, 5))),
        ((), (("a", 0, 5), ("b", 5, 1001))),
        ((good,) * 5, (stay,)),
        ((good,) * 1000, (stay,)),
        ((lot(0, 4),), (stay,)),
        ((lot(0, 6),), (stay,)),
        ((good, lot(0, 4)), (stay,)),
        ((good, good, good, lot(1, 6)), (stay,)),
        ((lot(0, 5, lot(0, 1)),), (stay,)),
        ((lot(2, 5, lot(0, 1)),), (stay,)),
        ([good], (stay,)),
        ((list(good),), (stay,)),
        ((good, None), (stay,)),
        ((None,), (stay,)),
        ((0,), (stay,)),
        (((),), (stay,)),
        (good, (stay,)),
        nested(5),
        nested(6),
        nested(900),
        nested(900, 2),
        nested(900, 4),
        nested(4, 2),
        nested(4, 4),
        nested(3, 4),
        spread(4, 4, 1),
        spread(2, 2, 2, 2),
        spread(3, 3, 3),
        lot(3, 4, spread(4, 4), lot(2, 3)),
        "ab",
        PAGE,
        stay,
        (stay,),
        (good,),
        (good, good),
    ]
    rows = [(f"beside {at}", thing) for at, thing in enumerate(beside)]
    odd = anything()
    rows += odd
    rows += [(f"parts {label}", (thing, (stay,))) for label, thing in odd]
    rows += [(f"stays {label}", ((), thing)) for label, thing in odd]
    rows += [(f"part {label}", ((thing,), (stay,))) for label, thing in odd]
    rows += [(f"part behind {label}", ((good, thing), (stay,))) for label, thing in odd]
    rows += [(f"parts of a part {label}", (((thing, (("a", 0, 5),)),), (stay,))) for label, thing in odd]
    rows += [(f"third {label}", ((), (stay,), thing)) for label, thing in odd]
    for label, thing in no_stays():
        rows += [(f"stay {label}", ((), (thing,))), (f"stay behind {label}", ((), (("a", 0, 5), thing)))]
        rows += [(f"stay of a part {label}", ((((), (thing,)),), (stay,)))]
    return rows


def some_track(chance, end, within=4):
    """A TRACK with this END, now and then with more in it than may stand in one."""
    stays = []
    begin = end
    for _ in range(chance.choice((1, 1, 2, 3))):
        first = max(0, begin - chance.randint(1, 4))
        if first < begin:
            stays.insert(0, (chance.choice("abc"), first, begin))
            begin = first
    many = chance.choice((0, 1, 2, 3)) if within > 1 and begin > 0 else 0
    return (tuple(some_track(chance, begin, within - 1) for _ in range(many)), tuple(stays))


def many_standing(track):
    return 1 + sum(many_standing(part) for part in track[0])


def some_tracks(many=120):
    """TRACKS about the first and the last hours."""
    chance = random.Random(23)
    rows = []
    while len(rows) < many:
        track = some_track(chance, chance.choice((1, 2, 5, 9, 14, 20, 30, 990, 999, 1000)))
        if many_standing(track) <= 12:
            rows.append(track)
    return rows


def no_texts():
    """Pairs (label, thing): things that are no text."""
    return odd_things() + odd_tuples() + odd_numbers() + [("bytes of a page", b"page a 0 1"), ("words", ["page", "a"])]


DEEDS = (
    ("grade", "g", GRADE),
    ("hour", 5),
    ("page", PAGE),
    ("bring", "l", "g", "r"),
    ("move", "l", "r"),
    ("part", "l", ("a", "b")),
    ("pour", ("a", "b"), "c"),
    ("let", "l"),
    ("back",),
    ("again",),
)


def no_deeds():
    """Pairs (label, thing): things that are no DEED by form, those a step beside one included."""
    beside = [
        (),
        ("",),
        ("nope",),
        ("nope", "l"),
        ("Back",),
        ("back ",),
        ("back", None),
        ("back", ()),
        ("again", "l"),
        "back",
        ["back"],
        (b"back",),
        ("hour",),
        ("hour", -1),
        ("hour", 1001),
        ("hour", "5"),
        ("hour", 5, 5),
        ("hour", (5,)),
        ("hour", True),
        ("page",),
        ("page",) + PAGE,
        ("page", PAGE, PAGE),
        ("page", list(PAGE)),
        ("page", BOOK),
        ("grade", "g"),
        ("grade", GRADE),
        ("grade", GRADE, "g"),
        ("grade", "g", list(GRADE)),
        ("grade", "g", BUDGET),
        ("grade", "g", GRADE, GRADE),
        ("bring", "l", "g"),
        ("bring", "l", "g", "r", "r"),
        ("move", "l"),
        ("move", "l", "r", "r"),
        ("part", "l"),
        ("part", "l", "a"),
        ("part", "l", "ab"),
        ("part", "l", "a", "b"),
        ("part", "l", ()),
        ("part", "l", ("a", "b", "c", "d", "e")),
        ("part", "l", ["a", "b"]),
        ("part", ("a", "b"), "l"),
        ("pour", ("a", "b")),
        ("pour", (), "c"),
        ("pour", ("a", "b", "c", "d", "e"), "f"),
        ("pour", ["a", "b"], "c"),
        ("pour", "c", ("a", "b")),
        ("pour", "ab", "c"),
        ("let",),
        ("let", "l", "l"),
        ("let", ("l",)),
        list(DEEDS[0]),
        DEEDS,
        (DEEDS[8],),
    ]
    rows = [(f"beside {at}", thing) for at, thing in enumerate(beside)]
    odd = anything()
    rows += odd
    rows += [(f"word {label}", (thing,)) for label, thing in odd]
    rows += [(f"word ahead of a name {label}", (thing, "l")) for label, thing in odd]
    names = [(repr(word), word) for word in BARRED + ("", "abcdefg", "A", "a1", "a b", "a\n")] + odd
    for label, thing in names:
        rows += [(f"{deed[0]} {at} {label}", deed[:at] + (thing,) + deed[at + 1:])
                 for deed in DEEDS for at in range(1, len(deed))]
        rows += [(f"part of {label}", ("part", "l", ("a", thing))), (f"pour of {label}", ("pour", (thing, "b"), "c"))]
        rows += [(f"last of four {label}", ("part", "l", ("a", "b", "c", thing)))]
        rows += [(f"one too many {label}", deed + (thing,)) for deed in DEEDS]
    return rows


LEG = ("v", "a", "b", 3, 2)
TABLE = (LEG, ("w", "b", "c", 5, 1), ("v", "a", "c", 4, 9))
JOB = ((40, 0), "a", 2, "c", 9)


def no_legs():
    """Pairs (label, thing): things that are no LEG, those a step beside one included."""
    beside = [
        (),
        ("v", "a", "b", 3),
        ("v", "a", "b", 3, 2, 2),
        ["v", "a", "b", 3, 2],
        ("v", "a", "a", 3, 2),
        ("v", "a", "b", -1, 2),
        ("v", "a", "b", 1000, 1),
        ("v", "a", "b", 1000, 0),
        ("v", "a", "b", 3, 0),
        ("v", "a", "b", 3, -1),
        ("v", "a", "b", 0, 1001),
        ("v", "a", "b", 1, 1000),
        ("v", "a", "b", 999, 2),
        ("v", "a", "b", 500, 501),
        ("v", "a", "b", True, 2),
        ("v", "a", "b", False, 2),
        ("v", "a", "b", 3, True),
        ("v", "a", "b", "3", 2),
        ("v", "a", "b", 3, "2"),
        ("v", "a", 3, "b", 2),
        (3, 2, "v", "a", "b"),
        "vabcd",
        (LEG,),
    ]
    rows = [(f"beside {at}", thing) for at, thing in enumerate(beside)]
    odd = anything()
    rows += odd
    for label, thing in no_names():
        rows += [(f"name {at} {label}", LEG[:at] + (thing,) + LEG[at + 1:]) for at in range(3)]
    rows += [(f"number {at} {label}", LEG[:at] + (thing,) + LEG[at + 1:]) for at in (3, 4) for label, thing in odd]
    rows += [(f"sixth {label}", LEG + (thing,)) for label, thing in odd]
    return rows


def no_tables():
    """Pairs (label, thing): things that are no TABLE."""
    beside = [[], [LEG], LEG, {}, "", None, 0, (LEG, list(LEG)), (LEG, None), ((),), (TABLE,), (LEG,) * 41, (LEG,) * 1000]
    rows = [(f"beside {at}", thing) for at, thing in enumerate(beside)]
    rows += anything()
    wrong = no_legs()
    rows += [(f"one {label}", (thing,)) for label, thing in wrong]
    rows += [(f"behind {label}", (LEG, thing)) for label, thing in wrong]
    return rows


def no_jobs():
    """Pairs (label, thing): things that are no JOB of GRADE."""
    beside = [
        (),
        JOB[:4],
        JOB + (0,),
        list(JOB),
        ([40, 0],) + JOB[1:],
        ((40,),) + JOB[1:],
        ((),) + JOB[1:],
        ((40, 0, 0),) + JOB[1:],
        ((41, 0),) + JOB[1:],
        ((0, 10),) + JOB[1:],
        ((-1, 0),) + JOB[1:],
        ((0, -1),) + JOB[1:],
        ((True, 0),) + JOB[1:],
        ((0, False),) + JOB[1:],
        (("0", 0),) + JOB[1:],
        (40,) + JOB[1:],
        ((0, 0), "a", -1, "c", 9),
        ((0, 0), "a", 1000, "c", 1000),
        ((0, 0), "a", True, "c", 9),
        ((0, 0), "a", False, "c", 9),
        ((0, 0), "a", 2, "c", 1),
        ((0, 0), "a", 2, "c", 0),
        ((0, 0), "a", 2, "c", 1001),
        ((0, 0), "a", 0, "c", True),
        ((0, 0), "a", 0, "c", False),
        ((0, 0), "a", "2", "c", 9),
        ((0, 0), "a", 2, "c", "9"),
        ((0, 0), 2, "a", "c", 9),
        "abcde",
        (JOB,),
        LEG,
    ]
    rows = [(f"beside {at}", thing) for at, thing in enumerate(beside)]
    odd = anything()
    rows += odd
    for label, thing in no_names():
        rows += [(f"name {at} {label}", JOB[:at] + (thing,) + JOB[at + 1:]) for at in (1, 3)]
    rows += [(f"at {at} {label}", JOB[:at] + (thing,) + JOB[at + 1:]) for at in (0, 2, 4) for label, thing in odd]
    rows += [(f"spents {label}", ((0, thing),) + JOB[1:]) for label, thing in odd]
    rows += [(f"sixth {label}", JOB + (thing,)) for label, thing in odd]
    return rows


def rate_of(budget, warmth):
    """What an hour spends by a BUDGET, for the tests."""
    return ([0] + [worth for above, worth in budget[0] if above < warmth])[-1]


def hour_sums(table, grade, room, hour):
    """What an hour in a room spends by each BUDGET, None where it is UNTOLD, by a table of the tests."""
    if (room, hour) not in table:
        return None
    return tuple(rate_of(budget, table[room, hour]) for budget in grade)


def sum_up(one, other):
    return None if other is None else tuple(mine + yours for mine, yours in zip(one, other))


def over_most(grade, sums):
    return any(total > budget[1] for budget, total in zip(grade, sums))


def plain_least(tuples):
    """Those that no other one is at most by each number, word by word."""
    return sorted(one for one in set(tuples)
                  if not any(other != one and all(x <= y for x, y in zip(other, one)) for other in set(tuples)))


def lie_on(table, grade, sums, room, first, beyond):
    """Sums with what the hours in a room spend, None where one is UNTOLD or it is beyond a MOST."""
    for hour in range(first, beyond):
        sums = sums and sum_up(sums, hour_sums(table, grade, room, hour))
    return sums if sums and not over_most(grade, sums) else None


def plain_ways(table, grade, legs, job):
    """All GOOD WAYS by (numbers) with (COMING, LEFTS), tried one by one."""
    told, found = table, {}
    spents, start_room, start_hour, goal, latest = job

    def go(way, room, hour, sums):
        if room == goal and hour <= latest:
            found[way] = (hour, tuple(budget[1] - total for budget, total in zip(grade, sums)))
        for number, (van, source, target, start, last) in enumerate(legs):
            if source == room and start >= hour:
                waited = lie_on(told, grade, sums, room, hour, start)
                gone = waited and lie_on(told, grade, waited, van, start, start + last)
                if gone:
                    go(way + (number,), target, start + last, gone)
    go((), start_room, start_hour, spents)
    return found


def plain_comes(table, grade, legs, job):
    """What COMES to each (ROOM, HOUR), hour by hour, with all that could be spent by then."""
    spents, start_room, start_hour, goal, latest = job
    found, todo = {}, [(start_room, start_hour, spents)]
    while todo:
        room, hour, sums = todo.pop()
        if hour > latest or sums in found.setdefault((room, hour), set()):
            continue
        found[room, hour].add(sums)
        waited = lie_on(table, grade, sums, room, hour, hour + 1)
        if waited:
            todo.append((room, hour + 1, waited))
        for van, source, target, start, last in legs:
            if (source, start) == (room, hour):
                gone = lie_on(table, grade, sums, van, start, start + last)
                if gone:
                    todo.append((target, start + last, gone))
    return sorted((room, hour, tuple(plain_least(sums))) for (room, hour), sums in found.items() if hour <= latest)


def some_job(chance, grade, hours=13):
    """A JOB whose rooms are few."""
    first = chance.randrange(3)
    spents = tuple(chance.choice((0, 0, min(1, budget[1]), min(3, budget[1]))) for budget in grade)
    return (spents, chance.choice("aaab"), first, chance.choice("cccb"), chance.choice((first, 9, hours, hours, hours)))


def some_leg(chance):
    source, target = chance.choice(("ab", "bc", "ac", "ab", "bc", "ba", "cb"))
    return (chance.choice("vwx"), source, target, chance.randrange(11), chance.choice((1, 1, 2, 3)))


def some_way_cases(many=300, seed=77):
    """Rows (BOOK, table, GRADE, TABLE, JOB), small enough to try all."""
    chance = random.Random(seed)
    rows = []
    for _ in range(many):
        pages = [(room, 0, tuple(chance.randint(-1, 3) for _ in range(chance.choice((6, 12, 13, 13, 13)))))
                 for room in "abcvwx" if chance.random() < 0.95]
        pages += [(chance.choice("abcv"), chance.randrange(8), (chance.randint(-1, 3),)) for _ in range(chance.randrange(3))]
        grade = tuple((tuple((above, chance.choice((0, 0, 1, 2, 3))) for above in sorted(chance.sample(range(-1, 3), 2))),
                       chance.choice((5, 12, 30, 99))) for _ in range(chance.randint(1, 3)))
        if chance.random() < 0.5:
            # By these each WARMTH spends by one BUDGET alone, so that tuples are often unlike.
            grade = ((((1, 2), (2, 3)), 30), (((0, 2), (1, 0)), 30), (((-2, 1), (0, 0)), 20))[:chance.choice((2, 3))]
        legs = tuple(some_leg(chance) for _ in range(chance.choice((0, 1, 3, 6, 12, 18, 24))))
        rows.append((tuple(pages), table_of(pages), grade, legs, some_job(chance, grade)))
    return rows
