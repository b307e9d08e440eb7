"""What several tests share: things of every kind, and the error that wrong ones bring."""

import random

from vouchchains.errors import Wrong


class Other:
    """A thing of a class that the package does not know."""


class Same:
    """A thing that calls itself equal to everything."""

    def __eq__(self, other):
        return True


# None of these is a list or a tuple with something in it.
SINGLES = [
    None, True, False, 0, 1, -1, 7, 8, 9, 10 ** 9, 10 ** 9 + 1, -10 ** 39, 10 ** 39,
    "", "a", "abcdefgh", "abcdefghi", "A", "a b", "a1", "a\n", "lists", "all", b"", b"a",
    {}, {"a": "b"}, {("a",): True}, set(), {"a"}, {((), True)}, frozenset(), range(0), range(2),
    Other, Other(), Same(), len, lambda: (),
]

LISTINGS = [
    (), [], (0,), [0], ("a",), ["a"], (("a",),), [["a"]], ((), "k"), ("a", "k"), (("a",), "k"),
    [("a",), "k"], (["a"], "k"), ("a", "b"), ["a", "b"], ("a", "b", "c"), ((),), [()], [[]],
    ((), True), [((), True)], (((), True),), [((), 1)], (0, 1), [(0, 1)], ((0, 1),), [[0, 1]],
    ("a", ("b",)), [("a", ("b",))], [("a", "b")], [None], (None,), [True], (True, False),
]

EVERY_KIND = SINGLES + LISTINGS


def deep(levels):
    """A list in lists."""
    thing = []
    for _ in range(levels):
        thing = [thing]
    return thing


def wrong_at(call, *arguments, **more):
    """The place of the Wrong that a call raises, or None if it raises nothing."""
    try:
        call(*arguments, **more)
    except Wrong as error:
        return error.place
    return None


def drawing(number):
    """A source of chance that tells the same each time."""
    return random.Random(number)


def shuffled(things, number):
    """The same things in another order."""
    again = list(things)
    drawing(number).shuffle(again)
    return again
