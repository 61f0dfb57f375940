"""Things of all kinds, to hand in where a refusal is told of anything."""


class Touchy:
    """Fails at whatever is done with it but asking its class."""

    def fail(self, *args):
        raise RuntimeError("touched")

    __eq__ = __ne__ = __lt__ = __le__ = __gt__ = __ge__ = fail
    __hash__ = __len__ = __iter__ = __getitem__ = __contains__ = fail
    __bool__ = __repr__ = __str__ = __index__ = __int__ = fail
    __add__ = __radd__ = __call__ = fail


class Yielding:
    """Is like whatever it is compared with."""

    def __eq__(self, other):
        return True

    def __len__(self):
        return 2

    __hash__ = None


def ring_list():
    ring = []
    ring.append(ring)
    return ring


def other_kinds():
    """Things that are no whole number, no text, no list and no tuple."""
    return [
        None, True, False, 1.0, 0.5, float("nan"), float("inf"), 1j, ..., NotImplemented,
        b"", b"S", b"'a", bytearray(b"S"), memoryview(b"S"),
        {}, {"S": 1}, {0: ("S", (), 0)}, set(), {"S"}, frozenset(), range(0), range(3),
        iter([]), iter([("S", (), 0)]), (rule for rule in []), zip(), {}.items(), slice(2),
        object(), object, int, str, list, tuple, len, other_kinds, (lambda: []), ValueError("S"),
        Touchy(), Touchy, Yielding(), Yielding,
    ]


def whole_numbers():
    # The last ones have more figures than Python is willing to show.
    return [0, 1, -1, 2, 60, 61, 10 ** 60, -(10 ** 60), 10 ** 60 + 1, 10 ** 5000, -(10 ** 5000)]


def other_texts():
    """Texts of which none is a sign, a name or a text of a grammar."""
    return ["\n", "\t", "a\n", "\na", "a\tb", "a" * 61, "A" * 61, "\t\n", "ab\n"]


def lists_and_tuples():
    return [
        [], (), [[]], [()], ([],), ((),), [None], (None,), ["S"], ("S",), ["'", "a"], ("'", "a"),
        [0], (0,), [Touchy()], (Touchy(),), ring_list(), (ring_list(),), [{}], ({},),
    ]


def no_texts():
    return other_kinds() + whole_numbers() + lists_and_tuples() + other_texts() + ["a" * 61, ["a"], ("a",)]


def no_grammars():
    things = other_kinds() + whole_numbers() + other_texts()
    return things + [(), "", "S 0 =", [None], [("S", (), True)], [["S", (), 0]], (("S", (), 0),), [("S", (), 0)] * 61]


def no_costs():
    great = 10 ** 60
    return other_kinds() + whole_numbers() + other_texts() + lists_and_tuples() + [
        (1,), (1, 1), (1, 1, 1, 1), [1, 1, 1], "111", "", (True, 1, 1), (1, False, 1), (1, 1, True),
        (-1, 1, 1), (1, -1, 1), (1, 1, -1), (great + 1, 1, 1), (1, great + 1, 1), (1, 1, great + 1),
        (None, 1, 1), (1, None, 1), (1, 1, None), ("1", 1, 1), (1, 1, "1"), (1.0, 1, 1), (1, 1, 1.0), ((1, 1, 1),),
        ([1], 1, 1), (Touchy(), 1, 1), (1, 1, Touchy()), {1: 1, 2: 2, 3: 3}, {1, 2, 3}, iter((1, 1, 1)),
    ]
