"""A desk: lines of text that do deeds in a Book, or ask it."""

from vouchchains.bags import Question
from vouchchains.books import Book
from vouchchains.deeds import least_paper
from vouchchains.errors import NoCommand, NoText
from vouchchains.fewest import shut
from vouchchains.further import opened
from vouchchains.judging import judged
from vouchchains.notation import (read_day, read_deed, read_holder, read_log, read_unit, read_words,
                                  show, show_holder, show_log, show_region, show_unit)
from vouchchains.papers import unit_of
from vouchchains.searching import search
from vouchchains.spans import next_turn, open_days
from vouchchains.words import is_word


class Desk:
    """A Book that is led by lines."""

    def __init__(self):
        self._book = Book()

    def execute(self, line):
        """Do what a line says, and return the answer."""
        return _executed(self._book, line)


def answered(text, line):
    """What a Desk whose Book is read from the text of a log returns for a line."""
    return _executed(read_log(text), line)


def _executed(book, line):
    """Do in a Book what a line says, and return the answer."""
    word, parts = _command(line)
    answer = ANSWERS[word]
    return answer(book, *parts)


def _command(line):
    """(word, parts): what is asked for, and of what; it may raise NoCommand."""
    try:
        return _parsed(line)
    except NoText:
        raise NoCommand() from None


def _parsed(line):
    """As _command, but it raises NoText."""
    if not isinstance(line, str):
        raise NoText()
    if line in ("undo", "redo", "log"):
        return (line, [])
    parts = line.split(" ")
    word = parts[0]
    if word in ("ask", "then", "days", "turn", "shut", "opened"):
        return (word, [_question(parts[1:])])
    if word == "judge":
        question = _question(parts[1:6])
        units = [read_unit(part) for part in parts[6:]]
        if not units:
            raise NoText()
        return (word, [question, units])
    return ("deed", [read_deed(line)])


def _question(parts):
    """The Question of the parts of its text."""
    if len(parts) != 5:
        raise NoText()
    holder, use, day, rules, mode = parts
    if not is_word(use) or mode not in ("soft", "strict"):
        raise NoText()
    return Question(read_holder(holder), use, read_day(day), read_words(rules), mode == "strict")


def _deed(book, deed):
    """Do a deed."""
    book.do(deed)
    return "ok"


def _undo(book):
    """Undo the last deed."""
    return show(book.undo())


def _redo(book):
    """Do the deed again that was undone last."""
    return show(book.redo())


def _log(book):
    """The log."""
    return show_log(book)


def _ask(book, question):
    """The path for all that has arrived."""
    return _path(book.store(), book.archive().whole(), question)


def _then(book, question):
    """The path for what had arrived on the day of the question."""
    return _path(book.store(), book.archive().bag(question.day), question)


def _path(store, bag, question):
    """The units of the path that search returns, or that there is none."""
    word, path = search(store, bag, question)
    if word == "shut":
        return word
    return " ".join([word, *[show_unit(unit_of(paper)) for paper in path]])


def _days(book, question):
    """The spans of the days on which a question is open."""
    days = open_days(book.store(), book.archive().whole(), question)
    spans = [f"{first}-{last}" for first, last in days.spans()]
    return ",".join(spans) if spans else "none"


def _turn(book, question):
    """The next day with another answer."""
    day = next_turn(book.store(), book.archive().whole(), question)
    return "none" if day is None else str(day)


def _judge(book, question, units):
    """Whether the path of the papers with some units holds from each anchor, or why not."""
    bag = book.archive().whole()
    path = [least_paper(bag, unit) for unit in units]
    rows = [f"{show_holder(anchor.holder)} {place} {word}"
            for anchor, place, word in judged(book.store(), bag, question, path)]
    return "; ".join(rows) if rows else "none"


def _shut(book, question):
    """The fewest units that shut a question."""
    units = shut(book.store(), book.archive().whole(), [question])[1]
    return " ".join([show_unit(unit) for unit in units]) if units else "none"


def _opened(book, question):
    """The names that one more paper of the holder of a question can open."""
    region = opened(book.store(), book.archive().whole(), question.holder, question.use,
                    question.day, question.rules, question.strict)
    return show_region(region)


ANSWERS = {"deed": _deed, "undo": _undo, "redo": _redo, "log": _log, "ask": _ask, "then": _then,
           "days": _days, "turn": _turn, "judge": _judge, "shut": _shut, "opened": _opened}
