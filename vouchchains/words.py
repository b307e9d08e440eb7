"""What the smallest things are, such as words, names and days, and how some of them compare."""

LETTERS = "abcdefghijklmnopqrstuvwxyz"
LONGEST_WORD = 8
LAST_DAY = 10 ** 9
GREATEST_COUNT = 8


def is_integer(thing):
    """Whether a thing is an integer; True and False are none."""
    return isinstance(thing, int) and not isinstance(thing, bool)


def is_word(thing):
    """Whether a thing is a word."""
    if not isinstance(thing, str) or not 1 <= len(thing) <= LONGEST_WORD:
        return False
    return all([letter in LETTERS for letter in thing])


def is_name(thing):
    """Whether a thing is a name, of any length."""
    return isinstance(thing, tuple) and all([is_word(label) for label in thing])


def is_holder(thing):
    """Whether a thing is a holder."""
    return isinstance(thing, tuple) and len(thing) == 2 and is_name(thing[0]) and is_word(thing[1])


def is_day(thing):
    """Whether a thing is a day."""
    return is_integer(thing) and 0 <= thing <= LAST_DAY


def is_count(thing):
    """Whether a thing is a count."""
    return thing is None or (is_integer(thing) and 0 <= thing <= GREATEST_COUNT)


def is_pair(thing):
    """Whether a thing is a pair of rules."""
    return isinstance(thing, tuple) and len(thing) == 2 and is_word(thing[0]) and is_word(thing[1])


def is_serial(thing):
    """Whether a thing is a serial: an integer that is not negative."""
    return is_integer(thing) and thing >= 0


def is_unit(thing):
    """Whether a thing is a unit: the issuer and the serial of papers."""
    return (isinstance(thing, tuple) and len(thing) == 2
            and is_holder(thing[0]) and is_serial(thing[1]))


def are_words(thing):
    """Whether a thing is a list or a tuple of words."""
    return isinstance(thing, (list, tuple)) and all([is_word(word) for word in thing])


def at_most(count, other):
    """Whether a count is at most another one; None is the greatest."""
    return other is None or (count is not None and count <= other)


def optional(thing):
    """What a row has for a thing that may be None: rows must be such that they can be ordered."""
    return () if thing is None else (thing,)


def fresh(words):
    """A word that is none of some words, if these are not all of one and two letters."""
    for first in ["", *LETTERS]:
        for second in LETTERS:
            if first + second not in words:
                return first + second
    return None


def begins(name, other):
    """Whether the other name begins with the first one."""
    return other[:len(name)] == name
