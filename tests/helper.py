"""What the tests share: things of any kind, and how a refusal is asked for."""

from coolbook.errors import CoolError


class Bare:
    """An object of a kind that the program knows nothing of."""


class Touchy:
    """An object that can't be compared, counted, hashed or shown."""

    def refuse(self, *told):
        raise RuntimeError("touched")

    __eq__ = __ne__ = __lt__ = __le__ = __gt__ = __ge__ = refuse
    __len__ = __iter__ = __bool__ = __hash__ = __str__ = __repr__ = refuse
    __getitem__ = __contains__ = __add__ = __radd__ = __index__ = refuse


def deep(wrap, many=50_000):
    thing = wrap(1)
    for _ in range(many):
        thing = wrap(thing)
    return thing


def many_times(wrap, many=60):
    """Two to the sixtieth things, if each is counted as often as it stands there."""
    thing = wrap(1, 1)
    for _ in range(many):
        thing = wrap(thing, thing)
    return thing


def within_itself():
    thing = []
    thing.append(thing)
    return thing


def odd_things():
    """Pairs (label, thing): things that are no NAME, whole number, tuple, text or whatever else may be asked for."""
    return [
        ("none", None),
        ("truth", True),
        ("untruth", False),
        ("number with a point", 1.0),
        ("no number", float("nan")),
        ("endless", float("inf")),
        ("complex", 1 + 0j),
        ("bytes", b"a"),
        ("bytearray", bytearray(b"a")),
        ("list", ["a", 0, (1,)]),
        ("empty list", []),
        ("dict", {"a": 0}),
        ("empty dict", {}),
        ("set", {1, 2}),
        ("frozenset", frozenset((1,))),
        ("range", range(3)),
        ("iterator", iter((1, 2))),
        ("function", len),
        ("lambda", lambda: 1),
        ("class", int),
        ("module-like", Bare),
        ("object", Bare()),
        ("touchy", Touchy()),
        ("ellipsis", ...),
        ("error", ValueError("x")),
        ("slice", slice(1)),
        ("deep list", deep(lambda x: [x])),
        ("deep dict", deep(lambda x: {"a": x})),
        ("list many times over", many_times(lambda x, y: [x, y])),
        ("within itself", within_itself()),
    ]


def odd_tuples():
    """Pairs (label, thing): tuples that are neither a PAGE nor a BOOK nor WARMTHS."""
    return [
        ("deep tuple", deep(lambda x: (x,))),
        ("deep tuple of three", deep(lambda x: ("a", 0, x))),
        ("deep behind a good one", deep(lambda x: (("a", 0, (1,)), x))),
        ("tuple many times over", many_times(lambda x, y: (x, y))),
        ("three many times over", many_times(lambda x, y: ("a", x, y))),
        ("tuple with itself in it", (within_itself(),)),
        ("long tuple", (1,) * 1_000_000),
        ("tuple of a touchy one", (Touchy(),)),
        ("tuple of three touchy ones", (Touchy(), Touchy(), Touchy())),
    ]


def odd_numbers():
    return [
        ("huge", 10 ** 5000),
        ("far below", -10 ** 5000),
    ]


def odd_texts():
    return [
        ("long text", "a" * 1_000_000),
        ("many figures", "1" * 5000),
        ("other script", "\u00e9\u4e00"),
        ("half a sign", "\ud800"),
        ("no sign", "\x00"),
    ]


def refusal_of(function, *arguments):
    """The class itself of the refusal that a call ends in, None where it ends in none."""
    try:
        function(*arguments)
    except CoolError as error:
        return error.__class__
    return None
