"""What several tests share: things of every kind, and the error that wrong ones bring."""

import random

from vouchchains.errors import Wrong


class Other:
    """A thing of a class that the package does not know."""


class Same:
    """A thing that calls itself equal to everything."""

    def __eq__(self, other):
        return True


# None of these is a list or a tuple with something in it.
SINGLES = [
    None, True, False, 0, 1, -1, 7, 8, 9, 10 ** 9, 10 ** 9 + 1, -10 ** 39, 10 ** 39,
    "", "a", "abcdefgh", "abcdefghi", "A", "a b", "a1", "a\n", "lists", "all", b"", b"a",
    {}, {"a": "b"}, {("a",): True}, set(), {"a"}, {((), True)}, frozenset(), range(0), range(2),
    Other, Other(), Same(), len, lambda: (),
]

LISTINGS = [
    (), [], (0,), [0], ("a",), ["a"], (("a",),), [["a"]], ((), "k"), ("a", "k"), (("a",), "k"),
    [("a",), "k"], (["a"], "k"), ("a", "b"), ["a", "b"], ("a", "b", "c"), ((),), [()], [[]],
    ((), True), [((), True)], (((), True),), [((), 1)], (0, 1), [(0, 1)], ((0, 1),), [[0, 1]],
    ("a", ("b",)), [("a", ("b",))], [("a", "b")], [None], (None,), [True], (True, False),
]

EVERY_KIND = SINGLES + LISTINGS


def deep(levels):
    """A list in lists."""
    thing = []
    for _ in range(levels):
        thing = [thing]
    return thing


def unlike(fits):
    """The things of every kind of which something does not hold."""
    return [thing for thing in EVERY_KIND if not fits(thing)]


def plain_integer(thing, least, most):
    """Whether a thing is an integer within bounds, looked at by its own class."""
    return thing.__class__ is int and least <= thing <= most


def plain_word(thing):
    """Whether a thing is one of the words that occur among the things of every kind."""
    return thing.__class__ is str and thing in ("a", "b", "c", "k", "abcdefgh", "lists", "all")


def plain_listing(thing):
    """Whether a thing is a list or a tuple."""
    return thing.__class__ in (list, tuple)


def plain_pair(thing):
    """Whether a thing is a tuple of two words."""
    return thing.__class__ is tuple and len(thing) == 2 and all(plain_word(word) for word in thing)


def plain_holder(thing):
    """Whether a thing is a tuple of a name and a word."""
    return (thing.__class__ is tuple and len(thing) == 2 and thing[0].__class__ is tuple
            and all(plain_word(label) for label in thing[0]) and plain_word(thing[1]))


# What is wrong for an argument of a kind.
NO_DAYS = unlike(lambda thing: plain_integer(thing, 0, 10 ** 9))
NO_SERIALS = unlike(lambda thing: plain_integer(thing, 0, 10 ** 40))
NO_STEPS = unlike(lambda thing: plain_integer(thing, 0, 8))
NO_COUNTS = unlike(lambda thing: thing is None or plain_integer(thing, 0, 8))
NO_FLAGS = unlike(lambda thing: thing is True or thing is False)
NO_WORDS = unlike(plain_word)
NO_HOLDERS = unlike(plain_holder)
NO_LIST_OF_WORDS = unlike(lambda thing: plain_listing(thing) and all(map(plain_word, thing)))
NO_LIST_OF_PAIRS = unlike(lambda thing: plain_listing(thing) and all(map(plain_pair, thing)))
NOT_EMPTY_LISTS = unlike(lambda thing: plain_listing(thing) and len(thing) == 0)


def wrong_at(call, *arguments, **more):
    """The place of the Wrong that a call raises, or None if it raises nothing."""
    try:
        call(*arguments, **more)
    except Wrong as error:
        return error.place
    return None


def drawing(number):
    """A source of chance that tells the same each time."""
    return random.Random(number)


def shuffled(things, number):
    """The same things in another order."""
    again = list(things)
    drawing(number).shuffle(again)
    return again
