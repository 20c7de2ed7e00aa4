"""Things of every kind, that are handed in where something else is due."""

# Things that hold themselves, and one that is nested deep.
RING = []
RING.append(RING)
TWINED = ([],)
TWINED[0].append(TWINED)
KNOT = {}
KNOT["a"] = KNOT
DEEP = ()
for _ in range(450):
    DEEP = (DEEP,)
KNOTTED = (RING, TWINED, KNOT, DEEP)

# None of these is a name, a path, signs, a change, an entry or a row.
ODD = (
    None, True, False, -1, 10 ** 29, 1.5, float("nan"), 2j, b"", b"a", b"make", bytearray(b"a"),
    frozenset(), range(3), object(), int, len, Ellipsis,
    {"a": 1}, {1, 2}, {}, [[]], [None], ((),), ({},), ([],), (None,), (1,), (b"make", 0), *KNOTTED,
)

# None of these is the number of a thing, or a moment, whatever the tree or the row.
NO_NUMBERS = (
    None, True, False, -1, -7, 10 ** 29, 0.0, 1.0, 2j, "", "0", "a", b"0", (), (0,), [], [0], {}, {0: 0},
    {0}, frozenset((0,)), range(1), object(), int, *KNOTTED,
)
