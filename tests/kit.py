"""What several tests use: wrong inputs, many waits, and a second opinion."""

from itertools import combinations, product

from stuckbell.errors import BadWaits, BellError, NoHand, NoLetter

REFUSALS = (BadWaits, NoHand, NoLetter)

# No list of waits, whatever else they are.
NO_LISTS = (
    None, True, False, 0, 1, -1, 10 ** 30, 2.5, "", "all", "waits", b"", b"all",
    (), (None,), (None, ("all", [0])), ("all", [0]), {}, {0: None},
    set(), frozenset([0]), bytearray(b"a"), range(3), object(), int, len,
    iter([None]), NotImplemented,
)

# No wait of one of two hands, whatever else they are.
NO_WAITS = (
    # not None and no pair
    True, False, 0, 1, -1, 2.5, "", "all", "any", b"", b"all", [], [0], [None],
    ["all", [0]], {}, {"all": [0]}, {"all", "any"}, range(2), object(), str, len,
    (), ("all",), ([0],), ("all", [0], [1]), ("all", [0], None), (None, None),
    (("all", [0]),), ("all", 0, 1),
    # no word in front
    ("ALL", [0]), ("All", [0]), ("Any", [0]), ("al", [0]), ("a", [0]),
    ("all ", [0]), (" any", [0]), ("allany", [0]), ("all any", [0]), ("", [0]),
    ("each", [0]), ("one", [0]), (b"all", [0]), (b"any", [0]), (None, [0]),
    (True, [0]), (False, [0]), (0, [0]), (1, [0]), (["all"], [0]),
    (("all",), [0]), ({"all"}, [0]), ({}, [0]), ([0], "all"), ([0], [0]),
    # no list of hands behind it
    ("all", None), ("any", True), ("any", False), ("all", 0), ("all", 1),
    ("all", "0"), ("all", "01"), ("any", b"\x00"), ("all", (0,)), ("all", (0, 1)),
    ("any", {0}), ("all", {0: 1}), ("all", range(1)), ("any", object()),
    # a list, but empty, or with a hand twice
    ("all", []), ("any", []), ("all", [0, 0]), ("any", [1, 1]),
    ("all", [0, 1, 0]), ("any", [1, 0, 0]), ("any", [0, 1, 1, 0]),
    # a list with something else than a hand
    ("all", [2]), ("any", [2]), ("all", [0, 2]), ("any", [40]), ("all", [-1]),
    ("any", [0, -1]), ("all", [-2]), ("all", [10 ** 30]), ("all", [-10 ** 30]),
    ("all", [True]), ("any", [False]), ("all", [0, True]), ("any", [False, 1]),
    ("all", [True, False]), ("all", [0.0]), ("any", [1.0, 0]), ("all", [2.5]),
    ("all", ["0"]), ("any", [""]), ("all", ["all"]), ("all", [b"\x00"]),
    ("all", [None]), ("any", [0, None]), ("all", [[]]), ("all", [[0]]),
    ("any", [0, [1]]), ("all", [(0,)]), ("all", [()]), ("any", [{}]),
    ("all", [{0}]), ("all", [("all", [0])]), ("any", [object()]), ("all", [int]),
)

# No hand of any number of hands up to forty.
NO_HANDS = (
    True, False, None, -1, -2, 40, 41, 10 ** 30, -10 ** 30, 0.0, 1.0, 2.5, "",
    "0", "all", b"", b"\x00", [], [0], [[0]], (), (0,), {}, {0: 0}, set(), {0},
    range(1), object(), int, len,
)


class Meddler:
    """Claims to be equal to everything, and can't be a key of anything."""

    __hash__ = None

    def __eq__(self, other):
        return True


class Touchy:
    """Can't be compared, measured, shown or asked whether it holds."""

    def refuse(self, *told):
        raise RuntimeError("do not touch")

    __eq__ = __ne__ = __lt__ = __hash__ = __len__ = __bool__ = refuse
    __repr__ = __str__ = __iter__ = __contains__ = __getitem__ = refuse


class Shy:
    """Raises whatever it is asked for, its class included."""

    def __getattribute__(self, name):
        raise RuntimeError("do not ask")


def liar(claimed):
    """A thing that says that it is of a class of which it is not."""

    class Liar:
        __class__ = property(lambda self: claimed)

    return Liar()


class NearlyList(list):
    """Made from a list, but measured and gone over in a way of its own."""

    def __len__(self):
        raise RuntimeError("no length")

    def __iter__(self):
        raise RuntimeError("no items")


class NearlyInt(int):
    """Made from a whole number, but compared in a way of its own."""

    def compare(self, other):
        raise RuntimeError("no order")

    __lt__ = __le__ = __gt__ = __ge__ = __eq__ = compare
    __hash__ = None


# Of no kind that is asked for, and not to be touched to find that out.
ODD_THINGS = (
    Meddler(), Touchy(), Shy(), liar(int), liar(list), liar(tuple), liar(str),
    NearlyList([None]), NearlyInt(0), 10 ** 5000, -10 ** 5000,
)


def snapshot(thing):
    """What a thing looks like, with the kinds of all that is in it."""
    if isinstance(thing, (list, tuple)):
        return [type(thing), id(thing), [snapshot(item) for item in thing]]
    return [type(thing), repr(thing)]


def refusal(case, wanted, call, *told):
    """The refusal of a call that is taken by its names and by no other."""
    for name in (wanted, BellError, ValueError):
        with case.assertRaises(name) as taken:
            call(*told)
        case.assertIs(type(taken.exception), wanted)
    for other in REFUSALS:
        if other is not wanted:
            case.assertNotIsInstance(taken.exception, other)
    return taken.exception


def subsets(things):
    """All lists that leave out some of the things, or none."""
    return [
        list(chosen)
        for many in range(len(things) + 1)
        for chosen in combinations(things, many)
    ]


def all_waits(many):
    """Every list of waits of so many hands, with hands in rising order."""
    things = [None] + [
        (word, hands)
        for word in ("all", "any")
        for hands in subsets(range(many))
        if hands
    ]
    return [list(waits) for waits in product(things, repeat=many)]


def mixed_waits(many, seed):
    """Waits of so many hands, the same ones for the same seed."""
    state = seed * 7919 + many

    def drawn(below):
        nonlocal state
        state = (state * 1103515245 + 12345) % 2 ** 31
        return (state // 2 ** 12) % below

    waits = []
    for _ in range(many):
        hands = []
        for _ in range(1 + drawn(3)):
            hand = drawn(many)
            if hand not in hands:
                hands.append(hand)
        waits.append((None, ("all", hands), ("any", hands))[drawn(9) % 3])
    return waits


def round_by_its_own(wait, rounds):
    """The round that [4] tells for a hand that waits so, given all rounds."""
    if wait is None:
        return 0
    word, hands = wait
    known = [rounds[hand] for hand in hands if rounds[hand] is not None]
    if word == "all":
        return max(known) + 1 if len(known) == len(hands) else None
    return min(known) + 1 if known else None


def shown_by_the_words(waits, hands):
    """What [5] says of these hands, word for word."""
    for hand in hands:
        if waits[hand] is None:
            return False
        word, others = waits[hand]
        if word == "all" and not [other for other in others if other in hands]:
            return False
        if word == "any" and [other for other in others if other not in hands]:
            return False
    return True
