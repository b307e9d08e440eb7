"""Texts for names, holders, regions, words, papers, anchors, notices, deeds and logs."""

from vouchchains.books import Book
from vouchchains.errors import Broken, NoText, VouchError
from vouchchains.limits import MOST_STEPS, Limits
from vouchchains.papers import Anchor, Notice, Paper
from vouchchains.regions import Region
from vouchchains.words import GREATEST_COUNT, is_day, is_word

DIGITS = "0123456789"
MOST_DIGITS = 40
ALONE = ("all", "none")


def show(thing):
    """The text of a Paper, an Anchor, a Notice or a deed."""
    if isinstance(thing, Paper):
        return f"paper {show_holder(thing.issuer)} {thing.serial} {_show_bound(thing)}"
    if isinstance(thing, Anchor):
        return f"anchor {_show_bound(thing)}"
    if isinstance(thing, Notice):
        entries = [f"{serial}@{day}" for serial, day in thing.entries]
        return f"notice {show_holder(thing.issuer)} {thing.day} {thing.last} {_show_row(entries)}"
    word, parts = thing[0], thing[1:]
    if word in ("trust", "distrust"):
        return f"{word} {_show_bound(parts[0])}"
    if word == "arrive":
        return f"arrive {parts[0]} {show(parts[1])}"
    numbers = [str(number) for number in parts[2:]]
    return " ".join([word, str(parts[0]), show_unit(parts[1]), *numbers])


def show_name(name):
    """The text of a name."""
    return ".".join(name) if name else "."


def show_holder(holder):
    """The text of a holder."""
    name, mark = holder
    return f"{show_name(name)}:{mark}"


def show_unit(unit):
    """The text of a unit."""
    holder, serial = unit
    return f"{show_holder(holder)}#{serial}"


def show_region(region):
    """The text of a Region."""
    rows = [f"+{show_name(name)}" if flag else f"-{show_name(name)}"
            for name, flag in region.rows()]
    return _show_row(rows)


def show_words(words):
    """The text of uses or rules, which may be None for all."""
    if words is None:
        return "all"
    different = sorted(set(words))
    if len(different) == 1 and different[0] in ALONE:
        return f"={different[0]}"
    return _show_row(different)


def show_log(book):
    """The text of the log of a Book."""
    return "".join([show(deed) + "\n" for deed in book.log()])


def read_name(text):
    """The name of a text."""
    _look(isinstance(text, str))
    if text == ".":
        return ()
    labels = text.split(".")
    _look(all([is_word(label) for label in labels]))
    return tuple(labels)


def read_holder(text):
    """The holder of a text."""
    name, mark = _split(text, ":", 2)
    _look(is_word(mark))
    return (read_name(name), mark)


def read_unit(text):
    """The unit of a text."""
    holder, serial = _split(text, "#", 2)
    return (read_holder(holder), read_serial(serial))


def read_region(text):
    """The Region of a text."""
    rows = [_read_row(part) for part in _listed(text)]
    _look(len({name for name, _ in rows}) == len(rows))
    region = Region(rows)
    # Rows that are not the fewest, or not ascending, are not how the region is written.
    _look(region.rows() == rows)
    return region


def read_words(text):
    """The ascending tuple of the uses or rules of a text, or None for all."""
    if _is_one_of(text, ["all"]):
        return None
    if _is_one_of(text, [f"={word}" for word in ALONE]):
        return (text[1:],)
    words = _listed(text)
    _look(all([is_word(word) for word in words]))
    return _ascending(words)


def read_paper(text):
    """The Paper of a text."""
    return _paper(_split(text, " ", 14))


def read_anchor(text):
    """The Anchor of a text."""
    parts = _split(text, " ", 12)
    _look(parts[0] == "anchor")
    return _anchor(parts[1:])


def read_notice(text):
    """The Notice of a text."""
    return _notice(_split(text, " ", 5))


def read_deed(text):
    """The deed of a text."""
    _look(isinstance(text, str))
    parts = text.split(" ")
    word, many = parts[0], len(parts)
    if word in ("trust", "distrust"):
        _look(many == 12)
        return (word, _anchor(parts[1:]))
    if word == "arrive":
        _look(many in (7, 16))
        return (word, read_day(parts[1]), _notice(parts[2:]) if many == 7 else _paper(parts[2:]))
    if word == "renew":
        _look(many == 6)
        return (word, read_day(parts[1]), read_unit(parts[2]), read_serial(parts[3]),
                read_day(parts[4]), read_day(parts[5]))
    _look(word == "back" and many == 4)
    return (word, read_day(parts[1]), read_unit(parts[2]), read_day(parts[3]))


def read_log(text):
    """The Book in which the deeds of a log are done; it may raise Broken with a line's index."""
    _look(isinstance(text, str))
    lines = text.split("\n")
    book = Book()
    for at, line in enumerate(lines[:-1]):
        try:
            book.do(read_deed(line))
        except VouchError:
            raise Broken(at) from None
    if lines[-1]:
        raise Broken(len(lines) - 1)
    return book


def read_day(text):
    """The day of a text."""
    number = read_serial(text)
    _look(is_day(number))
    return number


def read_serial(text):
    """The integer of a text, which is not negative."""
    _look(1 <= len(text) <= MOST_DIGITS and all([sign in DIGITS for sign in text]))
    _look(text == "0" or text[0] != "0")
    return int(text)


def _show_row(parts):
    """The text of parts with a comma between each two."""
    return ",".join(parts) if parts else "none"


def _show_bound(thing):
    """The text of the holder and the Limits of a Paper or an Anchor."""
    limits = thing.limits
    pairs = [f"{rule}>{far}" for rule, far in limits.pairs]
    parts = [show_holder(thing.holder), str(limits.first), str(limits.last), str(limits.steps),
             show_region(limits.region), show_words(limits.uses), _show_row(pairs),
             "any" if limits.any_rule else "named", _show_count(limits.unruled_for),
             _show_count(limits.any_for), _show_count(limits.maps_for)]
    return " ".join(parts)


def _show_count(count):
    """The text of a count."""
    return "all" if count is None else str(count)


def _look(answer):
    """Raise NoText if something is not so."""
    if not answer:
        raise NoText()


def _is_one_of(text, several):
    """Whether a thing is one of some texts."""
    return isinstance(text, str) and text in several


def _split(text, sign, many):
    """The parts of a text with a sign between each two, so many of them."""
    _look(isinstance(text, str))
    parts = text.split(sign)
    _look(len(parts) == many)
    return parts


def _listed(text):
    """The parts of a text with a comma between each two, or none."""
    _look(isinstance(text, str))
    return [] if text == "none" else text.split(",")


def _ascending(things):
    """A list of ascending and different things as a tuple."""
    _look(things == sorted(set(things)))
    return tuple(things)


def _read_row(text):
    """The row of a region."""
    _look(text[:1] in ("+", "-"))
    return (read_name(text[1:]), text[0] == "+")


def _read_pair(text):
    """The pair of rules of a text."""
    pair = tuple(_split(text, ">", 2))
    _look(all([is_word(rule) for rule in pair]))
    return pair


def _read_entry(text):
    """The entry of a notice."""
    serial, day = _split(text, "@", 2)
    return (read_serial(serial), read_day(day))


def _read_count(text):
    """The count of a text."""
    return None if text == "all" else _bounded(text, GREATEST_COUNT)


def _bounded(text, most):
    """The integer of a text, from 0 to a greatest one."""
    number = read_serial(text)
    _look(number <= most)
    return number


def _limits(parts):
    """The Limits of ten parts of a text."""
    first, last, steps, region, uses, pairs, any_rule = parts[:7]
    _look(any_rule in ("any", "named"))
    unruled_for, any_for, maps_for = [_read_count(count) for count in parts[7:]]
    return Limits(read_day(first), read_day(last), steps=_bounded(steps, MOST_STEPS),
                  region=read_region(region), uses=read_words(uses),
                  pairs=_ascending([_read_pair(pair) for pair in _listed(pairs)]),
                  any_rule=(any_rule == "any"), unruled_for=unruled_for, any_for=any_for,
                  maps_for=maps_for)


def _paper(parts):
    """The Paper of the parts of its text."""
    word, issuer, serial, holder = parts[:4]
    _look(word == "paper")
    return Paper(read_holder(issuer), read_serial(serial), read_holder(holder), _limits(parts[4:]))


def _anchor(parts):
    """The Anchor of a holder and ten parts of Limits."""
    return Anchor(read_holder(parts[0]), _limits(parts[1:]))


def _notice(parts):
    """The Notice of the parts of its text."""
    word, issuer, day, last, entries = parts
    _look(word == "notice")
    return Notice(read_holder(issuer), read_day(day), read_day(last),
                  _ascending([_read_entry(entry) for entry in _listed(entries)]))
