"""Programs and odd things that several tests share."""

from turnsneeded.errors import NoLog, TooMany
from turnsneeded.programs import Program, beside, stretched

LINE = Program(1, 1, ((0, 0, (1,)),))
TWO = Program(2, 1, ((0, 0, (0, 1)), (0, 0, (1, 0))))
DEEP = Program(2, 2, ((0, 0, (0, 1)), (0, 1, (0, 0)), (1, 0, (1, 0)), (1, 1, (0, -1))))
ROUND = Program(1, 2, ((0, 1, (1,)), (1, 0, (-1,))))
AHEAD = Program(1, 1, ((0, 0, (-1,)),))
EMPTY = Program(1, 1, ())
BOTH = Program(1, 1, ((0, 0, (-1,)), (0, 0, (1,))))
FULL = Program(4, 8, tuple((k // 8, k % 8, (k, -k, 1, 0)) for k in range(24)))
# As great as one that is passed on may be, with longer steps than may be constructed.
GREAT = stretched(stretched(beside(FULL, FULL), 10 ** 12), 10 ** 12)
ALL_PROGRAMS = (LINE, TWO, DEEP, ROUND, AHEAD, EMPTY, BOTH, FULL, GREAT)


def tuples_deep(deep):
    thing = ()
    for _ in range(deep - 1):
        thing = (thing,)
    return thing


def lists_deep(deep):
    thing = []
    for _ in range(deep - 1):
        thing = [thing]
    return thing


def rounds_deep(deep, many=2, inner=(0,)):
    """Rounds of so many times each, nested so deep in one another, around a log."""
    for _ in range(deep):
        inner = (("times", many, inner),)
    return inner


def odd_things():
    """New objects of many kinds, none of which may make a function fail in a way of its own."""
    return [
        None, True, False, Ellipsis, NotImplemented, "", "0", "times", "boxes ", b"", b"boxes", bytearray(b"a"),
        [], [0], [1], {}, {0: 0}, {"times": 1}, range(0), range(1), slice(0), memoryview(b"a"), iter(()), object(),
        len, int, ValueError("x"), NoLog(), TooMany(3), Program(1, 1, ()), lambda: 0, odd_things,
        -1, -10 ** 79, 10 ** 79, ("times", 1, (0,)), (None,), (True,), (False,), ("0",), ([],), ({},), (-1,),
        (10 ** 79,), (b"a",), (Program(1, 1, ()),), (("times",),), (("times", 1),), (("times", 1, ()),), ((0,),), ((),),
        (0, None), (0, False), tuples_deep(80), lists_deep(80), rounds_deep(39), (0, tuples_deep(79)),
        ("times", 1, tuples_deep(78)), (("times", 1, lists_deep(77)),), (("times", tuples_deep(77), (0,)),),
        (None,) * 9999, [0] * 9999, ((),) * 9999, ("times",) * 9999, (True,) * 9999, (-1,) * 9999,
    ]
