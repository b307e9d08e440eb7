"""Books: anchors, papers and notices that are kept over calls, by deeds that can be undone."""

from vouchchains.bags import Store
from vouchchains.checks import check
from vouchchains.deeds import EMPTY, behind, is_deed
from vouchchains.errors import Broken, NoDeed, Nothing, TooMany, VouchError
from vouchchains.known import Archive
from vouchchains.words import is_integer

MOST_DEEDS = 100


class Book:
    """A log of deeds, with what is held behind each of them."""

    def __init__(self):
        self._log = []
        # What is held before the first deed, and behind each one.
        self._held = [EMPTY]
        # Deeds to redo, the next one last.
        self._undone = []

    def do(self, deed):
        """Do a deed."""
        if not is_deed(deed):
            raise NoDeed()
        if len(self._log) >= MOST_DEEDS:
            raise TooMany(MOST_DEEDS)
        self._go_on(deed)
        self._undone = []

    def undo(self):
        """Undo the last deed, and return it."""
        if not self._log:
            raise Nothing()
        deed = self._log.pop()
        self._held.pop()
        self._undone.append(deed)
        return deed

    def redo(self):
        """Do the deed again that was undone last, and return it."""
        if not self._undone:
            raise Nothing()
        self._go_on(self._undone[-1])
        return self._undone.pop()

    def put_in(self, at, deed):
        """Put a deed before the one of an index of the log, or behind the last one."""
        check([is_integer(at) and 0 <= at <= len(self._log)])
        if len(self._log) >= MOST_DEEDS:
            raise TooMany(MOST_DEEDS)
        log = [*self._log[:at], deed, *self._log[at:]]
        held = self._held[:at + 1]
        for index in range(at, len(log)):
            held.append(_behind_or_broken(held[-1], log[index], index))
        self._log = log
        self._held = held
        self._undone = []

    def log(self):
        """The list of the deeds that are done."""
        return list(self._log)

    def store(self):
        """The Store of the anchors."""
        return Store(self._held[-1][0])

    def archive(self):
        """The Archive of all that has arrived."""
        return Archive(self._held[-1][1])

    def past(self, count):
        """The Book in which the first deeds, so many of them, are done."""
        check([is_integer(count) and 0 <= count <= len(self._log)])
        return _made(self._log[:count], self._held[:count + 1], [])

    def copied(self):
        """A Book with the same log and the same deeds to redo, which goes on by itself."""
        return _made(list(self._log), list(self._held), list(self._undone))

    def tried(self, deeds):
        """A copy in which some deeds are done as well."""
        check([isinstance(deeds, list)])
        book = self.copied()
        for at, deed in enumerate(deeds):
            try:
                book.do(deed)
            except VouchError:
                raise Broken(at) from None
        return book

    def __eq__(self, other):
        return isinstance(other, Book) and self._log == other._log

    def __len__(self):
        return len(self._log)

    def _go_on(self, deed):
        """Do a deed behind the last one."""
        self._held.append(behind(self._held[-1], deed))
        self._log.append(deed)


def _made(log, held, undone):
    """The Book of these lists themselves."""
    book = Book()
    book._log = log
    book._held = held
    book._undone = undone
    return book


def _behind_or_broken(held, deed, at):
    """What is held behind a deed; it raises Broken(at) if this cannot be done."""
    if not is_deed(deed):
        raise Broken(at)
    try:
        return behind(held, deed)
    except VouchError:
        raise Broken(at) from None
