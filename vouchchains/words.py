"""What the smallest things are: integers, words, names, holders, days, counts and pairs."""

LETTERS = "abcdefghijklmnopqrstuvwxyz"
LONGEST_WORD = 8
LAST_DAY = 10 ** 9
GREATEST_COUNT = 8


def is_integer(thing):
    """Whether a thing is an integer; True and False are none."""
    return isinstance(thing, int) and not isinstance(thing, bool)


def is_word(thing):
    """Whether a thing is a word."""
    if not isinstance(thing, str) or not 1 <= len(thing) <= LONGEST_WORD:
        return False
    return all([letter in LETTERS for letter in thing])


def is_name(thing):
    """Whether a thing is a name, of any length."""
    return isinstance(thing, tuple) and all([is_word(label) for label in thing])


def is_holder(thing):
    """Whether a thing is a holder."""
    return isinstance(thing, tuple) and len(thing) == 2 and is_name(thing[0]) and is_word(thing[1])


def is_day(thing):
    """Whether a thing is a day."""
    return is_integer(thing) and 0 <= thing <= LAST_DAY


def is_count(thing):
    """Whether a thing is a count."""
    return thing is None or (is_integer(thing) and 0 <= thing <= GREATEST_COUNT)


def is_pair(thing):
    """Whether a thing is a pair of rules."""
    return isinstance(thing, tuple) and len(thing) == 2 and is_word(thing[0]) and is_word(thing[1])


def begins(name, other):
    """Whether the other name begins with the first one."""
    return other[:len(name)] == name
