"""Points 100 and 101: the deeds of a Book, and its methods."""

import unittest

from vouchchains.bags import Bag, Store
from vouchchains.books import Book
from vouchchains.errors import Broken, NoDeed, Nothing, Taken, TooMany, Unknown, Wrong
from vouchchains.known import Archive
from vouchchains.limits import Limits
from vouchchains.papers import Anchor, Notice, Paper
from kinds import EVERY_KIND, Other, deep, drawing, wrong_at
from makes import END, LOW, MID, ROOT, anchor, error, paper
import worlds

LAST_DAY = 10 ** 9
ONE, TWO = anchor(), anchor(MID)
FIRST, LAST = paper(ROOT, MID), paper(MID, END)
NOTICE = Notice(MID, 20, 30, [(1, 40)])
UNIT = (ROOT, 1)
DEEDS = [("trust", ONE), ("distrust", ONE), ("arrive", 3, FIRST), ("arrive", 4, NOTICE),
         ("renew", 5, UNIT, 7, 20, 40), ("back", 6, UNIT, 30)]


def made(*deeds):
    """A Book in which some deeds are done."""
    book = Book()
    for deed in deeds:
        book.do(deed)
    return book


def looks(book):
    """All that a Book tells, with what it can redo."""
    there = book.copied()
    redone = []
    while error(there.redo) is None:
        redone.append(there.log()[-1])
    return (book.log(), book.store().anchors(), book.archive().whole(),
            [book.archive().bag(day) for day in range(0, 12)], redone)


def trusts(many):
    """Deeds of which as many as needed can be done one after another."""
    return [("distrust" if at % 2 else "trust", ONE) for at in range(many)]


class BookCase(unittest.TestCase):

    def check_raises(self, book, deed, kind, thing):
        """Check that a deed raises an error of a kind with a field, and that nothing changes."""
        before = looks(book)
        found = error(book.do, deed)
        self.assertIs(found.__class__, kind)
        field = found.limit if kind is TooMany else found.thing
        self.assertEqual(field, thing)
        self.assertEqual(looks(book), before)
        return field

    def check_items(self, book, items):
        """Check what has arrived when."""
        archive, wanted = book.archive(), Archive(items)
        self.assertIs(archive.__class__, Archive)
        for day in sorted({0, LAST_DAY, *[day for day, _ in items],
                           *[max(0, day - 1) for day, _ in items]}):
            self.assertEqual(archive.bag(day), wanted.bag(day))
        self.assertEqual(archive.whole(), wanted.whole())


class Deeds(BookCase):

    def test_nothing_at_first(self):
        book = Book()
        self.assertEqual((book.log(), book.store(), len(book)), ([], Store(), 0))
        self.check_items(book, [])

    def test_trust_and_distrust(self):
        book = made(("trust", TWO), ("trust", ONE))
        self.assertEqual(book.store(), Store([ONE, TWO]))
        book.do(("distrust", TWO))
        self.assertEqual(book.store(), Store([ONE]))
        book.do(("trust", TWO))
        book.do(("distrust", anchor()))
        self.assertEqual(book.store(), Store([TWO]))
        self.check_items(book, [])

    def test_trust_of_what_is_trusted(self):
        again = anchor()
        thing = self.check_raises(made(("trust", ONE)), ("trust", again), Taken, ONE)
        self.assertIs(thing, again)
        # Taken comes before TooMany.
        six = [anchor(last=last) for last in range(6)]
        full = made(*[("trust", one) for one in six])
        self.check_raises(full, ("trust", six[3]), Taken, six[3])
        self.check_raises(full, ("trust", ONE), TooMany, 6)
        full.do(("distrust", six[3]))
        full.do(("trust", ONE))
        self.check_raises(full, ("trust", six[3]), TooMany, 6)

    def test_distrust_of_what_is_not_trusted(self):
        one = anchor()
        self.assertIs(self.check_raises(Book(), ("distrust", one), Unknown, one), one)
        self.check_raises(made(("trust", TWO)), ("distrust", ONE), Unknown, ONE)

    def test_arrive(self):
        items = [(3, FIRST), (0, LAST), (LAST_DAY, NOTICE), (3, NOTICE), (5, FIRST)]
        book = made(*[("arrive", *item) for item in items])
        self.check_items(book, items)
        self.assertEqual(book.store(), Store())

    def test_arrive_on_a_day_on_which_it_has_arrived(self):
        book = made(("arrive", 3, FIRST), ("arrive", 3, NOTICE))
        again, notice = paper(ROOT, MID), Notice(MID, 20, 30, [(1, 40)])
        self.assertIs(self.check_raises(book, ("arrive", 3, again), Taken, FIRST), again)
        self.assertIs(self.check_raises(book, ("arrive", 3, notice), Taken, NOTICE), notice)
        for day in (0, 2, 4, LAST_DAY):
            book.do(("arrive", day, FIRST))
            book.do(("arrive", day, NOTICE))
        self.check_raises(book, ("arrive", 4, FIRST), Taken, FIRST)

    def test_too_many_papers(self):
        book = made(*[("arrive", day, one) for day in range(20) for one in (FIRST, LAST)])
        self.check_raises(book, ("arrive", 20, FIRST), TooMany, 40)
        self.check_raises(book, ("arrive", 20, paper(LOW, END)), TooMany, 40)
        self.check_raises(book, ("arrive", 19, FIRST), Taken, FIRST)
        self.check_raises(book, ("renew", 20, UNIT, 9, 1, 2), TooMany, 40)
        for at in range(16):
            book.do(("arrive", at, NOTICE))
        self.check_raises(book, ("arrive", 20, NOTICE), TooMany, 16)
        self.check_raises(book, ("arrive", 15, NOTICE), Taken, NOTICE)
        self.check_raises(book, ("back", 20, UNIT, 3), TooMany, 16)

    def test_too_many_notices(self):
        book = made(*[("back", day, UNIT, 3) for day in range(8)],
                    *[("arrive", day, NOTICE) for day in range(8)])
        self.check_raises(book, ("arrive", 9, NOTICE), TooMany, 16)
        self.check_raises(book, ("back", 9, UNIT, 3), TooMany, 16)
        self.check_raises(book, ("back", 7, UNIT, 3), Taken, Notice(ROOT, 7, 7, [(1, 3)]))
        for day in range(40):
            book.do(("arrive", day, FIRST))
        self.check_raises(book, ("arrive", 40, FIRST), TooMany, 40)

    def test_as_many_as_may_arrive(self):
        deeds = [("arrive", day, FIRST) for day in range(40)]
        deeds += [("arrive", day, NOTICE) for day in range(16)]
        self.assertEqual(len(made(*deeds)), 56)

    def test_renew(self):
        one = paper(ROOT, MID, 1, 5, 6, steps=3, uses=["web"])
        book = made(("arrive", 3, one), ("renew", 5, UNIT, 7, 20, 40), ("renew", 0, (ROOT, 7), 8, 9, 2))
        self.check_items(book, [(3, one), (5, one.renewed(7, 20, 40)), (0, one.renewed(8, 9, 2))])

    def test_renew_takes_the_least_of_several_papers_of_a_unit(self):
        several = [paper(ROOT, END), paper(ROOT, MID, last=50), paper(ROOT, MID), paper(ROOT, MID, 2)]
        least = min([one for one in several if one.serial == 1], key=lambda one: one.row())
        for turn in range(4):
            arrivals = several[turn:] + several[:turn]
            book = made(*[("arrive", 9 - at, one) for at, one in enumerate(arrivals)],
                        ("renew", 2, UNIT, 7, 20, 40))
            self.assertEqual(book.archive().bag(2), Bag([least.renewed(7, 20, 40)]))

    def test_renew_of_a_unit_that_arrived_on_a_later_day(self):
        book = made(("arrive", LAST_DAY, FIRST), ("renew", 0, UNIT, 7, 20, 40))
        self.assertEqual(book.archive().bag(0), Bag([FIRST.renewed(7, 20, 40)]))

    def test_renew_of_a_unit_that_has_not_arrived(self):
        for unit in ((ROOT, 2), (MID, 1), ((("root",), "x"), 1)):
            book = made(("arrive", 3, FIRST), ("arrive", 3, Notice(MID, 0, 9, [(1, 3)])), ("trust", TWO))
            given = (unit[0], unit[1])
            self.assertIs(self.check_raises(book, ("renew", 3, given, 7, 1, 2), Unknown, unit), given)

    def test_the_errors_of_renew_in_their_order(self):
        same = ("renew", 3, UNIT, 1, 0, 99)
        self.check_raises(made(("arrive", 3, FIRST)), same, Taken, FIRST)
        made(("arrive", 3, FIRST)).do(("renew", 4, UNIT, 1, 0, 99))
        full = made(*[("arrive", day, FIRST) for day in range(40)])
        self.check_raises(full, same, Taken, FIRST)
        self.check_raises(full, ("renew", 40, UNIT, 1, 0, 99), TooMany, 40)
        self.check_raises(full, ("renew", 3, (MID, 1), 1, 0, 99), Unknown, (MID, 1))

    def test_back(self):
        book = made(("back", 6, UNIT, 30))
        self.check_items(book, [(6, Notice(ROOT, 6, 6, [(1, 30)]))])
        self.check_raises(book, ("back", 6, UNIT, 30), Taken, Notice(ROOT, 6, 6, [(1, 30)]))
        for deed in (("back", 6, UNIT, 31), ("back", 7, UNIT, 30), ("back", 6, (ROOT, 2), 30)):
            book.do(deed)
        self.check_raises(made(("arrive", 6, Notice(ROOT, 6, 6, [(1, 30)]))), ("back", 6, UNIT, 30),
                          Taken, Notice(ROOT, 6, 6, [(1, 30)]))

    def test_what_is_no_deed(self):
        wrong = [deed[:at] + (thing,) + deed[at + 1:] for deed in DEEDS for at in range(len(deed))
                 for thing in [*EVERY_KIND, Other(), deed, (), UNIT[:1], Limits(0, 1), deep(25)]]
        wrong += [deed[:-1] for deed in DEEDS] + [(*deed, 3) for deed in DEEDS]
        wrong += [list(deed) for deed in DEEDS] + [(*deed[:-1], ) for deed in DEEDS]
        wrong += [("TRUST", ONE), ("", ONE), ("undo",), (), "trust", ("trust",), None, b"trust",
                  ("arrive", 3, ONE), ("trust", FIRST), ("arrive", True, FIRST), ("arrive", -1, FIRST),
                  ("arrive", LAST_DAY + 1, FIRST), ("back", 6, UNIT, False), ("back", 6, [ROOT, 1], 3),
                  ("back", 6, (ROOT, -1), 3), ("back", 6, (ROOT, True), 3), ("renew", 5, UNIT, -7, 2, 4),
                  ("renew", 5, UNIT, True, 2, 4), ("renew", 5, UNIT, 7, 20), deep(30), [0] * 19000,
                  ("trust",) * 9000, {"trust": ONE}, ("trust", (ROOT, ONE.limits))]
        right = [("trust", ONE), ("distrust", ONE), ("arrive", 3, FIRST), ("arrive", 4, NOTICE)]
        book, many = made(("trust", TWO)), 0
        for thing in [*EVERY_KIND, *wrong]:
            if self.is_right(thing):
                continue
            many += 1
            self.assertIs(error(book.do, thing).__class__, NoDeed, thing)
        self.assertGreater(many, 1500)
        self.assertEqual(len(book), 1)
        self.assertTrue(all(self.is_right(deed) for deed in right))

    def is_right(self, thing):
        """Whether a thing of this test is a deed after all, told in another way than in the package."""
        kinds = {"trust": "a", "distrust": "a", "arrive": "dt", "renew": "dusdd", "back": "dud"}
        if thing.__class__ is not tuple or not thing or thing[0].__class__ is not str:
            return False
        if thing[0] not in kinds or len(kinds[thing[0]]) != len(thing) - 1:
            return False
        return all(self.fits(kind, part) for kind, part in zip(kinds[thing[0]], thing[1:]))

    def fits(self, kind, part):
        if kind == "a":
            return part.__class__ is Anchor
        if kind == "t":
            return part.__class__ in (Paper, Notice)
        if kind == "u":
            return part.__class__ is tuple and len(part) == 2 and part[0] == ROOT and part[1] == 1
        return part.__class__ is int and 0 <= part and (kind == "s" or part <= LAST_DAY)


class Doing(BookCase):

    def test_do_returns_nothing(self):
        self.assertIsNone(Book().do(("trust", ONE)))

    def test_the_order_of_the_errors(self):
        full = made(*trusts(100))
        self.assertIs(error(full.do, ("trust",)).__class__, NoDeed)
        for deed in (("trust", ONE), ("trust", TWO), ("distrust", TWO), ("arrive", 3, FIRST)):
            self.assertIs(error(full.do, deed).__class__, TooMany)
            self.assertEqual(error(full.do, deed).limit, 100)
        self.assertEqual(len(full), 100)
        self.assertIs(error(made(*trusts(99)).do, ("trust", ONE)).__class__, Taken)

    def test_a_hundred_deeds(self):
        book = made(*trusts(99))
        book.do(("arrive", 3, FIRST))
        self.assertEqual(len(book), 100)
        book.undo()
        book.do(("arrive", 4, FIRST))
        self.assertEqual(error(book.do, ("arrive", 3, FIRST)).limit, 100)

    def test_undo_and_redo(self):
        book = made(*DEEDS)
        before = looks(book)
        for deed in DEEDS[::-1]:
            told = book.undo()
            self.assertEqual(told, deed)
        self.assertEqual((book.log(), book.store()), ([], Store()))
        self.check_items(book, [])
        for deed in DEEDS:
            self.assertEqual(book.redo(), deed)
        self.assertEqual(looks(book), before)

    def test_each_deed_undone(self):
        for many in range(1, len(DEEDS) + 1):
            book = made(*DEEDS[:many])
            book.undo()
            self.assertEqual(looks(book)[:4], looks(made(*DEEDS[:many - 1]))[:4])

    def test_nothing_to_undo_or_to_redo(self):
        book = Book()
        self.assertIs(error(book.undo).__class__, Nothing)
        self.assertIs(error(book.redo).__class__, Nothing)
        book.do(("trust", ONE))
        self.assertIs(error(book.redo).__class__, Nothing)
        book.undo()
        self.assertIs(error(book.undo).__class__, Nothing)
        self.assertEqual(book.redo(), ("trust", ONE))
        self.assertIs(error(book.redo).__class__, Nothing)

    def test_no_redo_behind_do(self):
        book = made(("trust", ONE), ("trust", TWO))
        book.undo()
        book.do(("arrive", 3, FIRST))
        self.assertIs(error(book.redo).__class__, Nothing)
        self.assertEqual(book.log(), [("trust", ONE), ("arrive", 3, FIRST)])

    def test_a_do_that_raises_leaves_what_can_be_redone(self):
        book = made(("trust", ONE), ("trust", TWO))
        book.undo()
        for deed in (("trust", ONE), ("trust",), ("distrust", TWO), None):
            self.assertIsNotNone(error(book.do, deed))
        self.assertEqual(book.redo(), ("trust", TWO))

    def test_undo_behind_redo(self):
        book = made(*DEEDS)
        for _ in range(3):
            book.undo()
        book.redo()
        self.assertEqual(book.undo(), DEEDS[3])
        self.assertEqual([book.redo(), book.redo(), book.redo()], DEEDS[3:])
        self.assertIs(error(book.redo).__class__, Nothing)


class PuttingIn(BookCase):

    def test_at_each_place(self):
        deeds = [("trust", ONE), ("arrive", 3, FIRST), ("back", 6, UNIT, 30)]
        new = ("arrive", 4, LAST)
        for at in range(4):
            book = made(*deeds)
            self.assertIsNone(book.put_in(at, new))
            wanted = deeds[:at] + [new] + deeds[at:]
            self.assertEqual(book.log(), wanted)
            self.assertEqual(looks(book), looks(made(*wanted)))
            self.assertEqual([book.undo() for _ in range(4)], wanted[::-1])
        book = Book()
        book.put_in(0, new)
        self.assertEqual(book.log(), [new])

    def test_at_no_such_place(self):
        for book in (Book(), made(*DEEDS)):
            before = looks(book)
            for at in [-1, len(book) + 1, 10 ** 39, True, False, None, "0", (), deep(30), Other()]:
                self.assertEqual(wrong_at(book.put_in, at, ("trust", TWO)), 0)
                self.assertEqual(wrong_at(book.put_in, at, None), 0)
            for at in EVERY_KIND:
                if not (at.__class__ is int and 0 <= at <= len(book)):
                    self.assertEqual(wrong_at(book.put_in, at, ("trust", TWO)), 0)
            self.assertEqual(looks(book), before)

    def test_the_order_of_the_errors(self):
        full = made(*trusts(100))
        self.assertEqual(wrong_at(full.put_in, 101, None), 0)
        for deed in (None, ("trust", TWO), ("trust", ONE)):
            self.assertEqual(error(full.put_in, 0, deed).limit, 100)
        book = made(*trusts(99))
        book.put_in(50, ("trust", TWO))
        self.assertEqual(len(book), 100)
        self.assertEqual(error(book.put_in, 100, ("distrust", TWO)).limit, 100)

    def test_things_that_are_no_deed(self):
        book = made(("trust", ONE), ("arrive", 3, FIRST))
        before = looks(book)
        for thing in [*EVERY_KIND, ("trust",), ["trust", TWO], deep(30), ("arrive", 3, ONE)]:
            for at in range(3):
                found = error(book.put_in, at, thing)
                self.assertEqual((found.__class__, found.at), (Broken, at))
        self.assertEqual(looks(book), before)

    def test_a_deed_that_breaks_itself(self):
        book = made(("trust", ONE), ("arrive", 3, FIRST))
        for at, deed in ((1, ("trust", ONE)), (2, ("arrive", 3, FIRST)), (0, ("distrust", ONE)),
                         (0, ("renew", 3, UNIT, 4, 5, 6)), (1, ("renew", 3, UNIT, 4, 5, 6))):
            found = error(book.put_in, at, deed)
            self.assertEqual((found.__class__, found.at), (Broken, at))
        book.put_in(2, ("renew", 3, UNIT, 4, 5, 6))

    def test_a_deed_that_breaks_a_later_one(self):
        deeds = [("trust", TWO), ("arrive", 3, FIRST), ("trust", ONE), ("distrust", TWO)]
        book = made(*deeds)
        book.undo()
        before = looks(book)
        for at, deed, broken in ((0, ("trust", ONE), 3), (1, ("trust", ONE), 3),
                                 (0, ("arrive", 3, FIRST), 2), (2, ("trust", ONE), 3)):
            found = error(book.put_in, at, deed)
            self.assertEqual((found.__class__, found.at), (Broken, broken))
            self.assertEqual(looks(book), before)
        self.assertEqual(book.redo(), ("distrust", TWO))
        found = error(book.put_in, 1, ("distrust", TWO))
        self.assertEqual((found.__class__, found.at), (Broken, 4))
        book.put_in(4, ("trust", TWO))

    def test_a_deed_that_makes_too_many_later(self):
        full = made(*[("arrive", day, FIRST) for day in range(40)])
        found = error(full.put_in, 0, ("arrive", 50, LAST))
        self.assertEqual((found.__class__, found.at), (Broken, 40))
        found = error(full.put_in, 7, ("arrive", 39, FIRST))
        self.assertEqual((found.__class__, found.at), (Broken, 40))

    def test_a_later_renewal_of_another_paper(self):
        lesser = paper(ROOT, LOW)
        book = made(("arrive", 3, FIRST), ("renew", 5, UNIT, 7, 20, 40))
        book.put_in(0, ("arrive", 9, lesser))
        self.check_items(book, [(9, lesser), (3, FIRST), (5, lesser.renewed(7, 20, 40))])

    def test_nothing_to_redo_after_it(self):
        book = made(("trust", ONE), ("trust", TWO))
        book.undo()
        book.put_in(0, ("arrive", 3, FIRST))
        self.assertIs(error(book.redo).__class__, Nothing)


class Copies(BookCase):

    def test_past(self):
        book = made(*DEEDS)
        before = looks(book)
        for count in range(len(DEEDS) + 1):
            past = book.past(count)
            self.assertIs(past.__class__, Book)
            self.assertEqual(looks(past), looks(made(*DEEDS[:count])))
            self.assertIs(error(past.redo).__class__, Nothing)
            past.do(("arrive", 50, LAST))
            self.assertEqual(past.log(), [*DEEDS[:count], ("arrive", 50, LAST)])
            past.undo()
            if count:
                self.assertEqual(past.undo(), DEEDS[count - 1])
        self.assertEqual(looks(book), before)

    def test_past_of_no_such_count(self):
        book = made(*DEEDS[:3])
        book.undo()
        for count in [-1, 3, 10 ** 39, Other(), deep(30), *EVERY_KIND]:
            if not (count.__class__ is int and 0 <= count <= 2):
                self.assertEqual(wrong_at(book.past, count), 0)
        self.assertIs(error(book.past(2).redo).__class__, Nothing)
        self.assertEqual(wrong_at(Book().past, 1), 0)
        self.assertEqual(len(Book().past(0)), 0)

    def test_copied(self):
        book = made(*DEEDS)
        book.undo()
        book.undo()
        copy = book.copied()
        self.assertEqual(looks(copy), looks(book))
        self.assertEqual(looks(copy)[4], DEEDS[4:])
        copy.redo()
        copy.undo()
        copy.undo()
        self.assertEqual(looks(copy)[4], DEEDS[3:])
        self.assertEqual(looks(book)[4], DEEDS[4:])
        book.do(("trust", TWO))
        self.assertEqual(copy.redo(), DEEDS[3])
        self.assertEqual(copy.redo(), DEEDS[4])
        copy.put_in(0, ("trust", TWO))
        self.assertEqual(book.log(), [*DEEDS[:4], ("trust", TWO)])
        self.assertEqual(copy.log(), [("trust", TWO), *DEEDS[:5]])

    def test_tried(self):
        book = made(*DEEDS[:2])
        book.undo()
        before = looks(book)
        there = book.tried(DEEDS[1:])
        self.assertEqual(there.log(), DEEDS)
        self.assertEqual(looks(there), looks(made(*DEEDS)))
        self.assertIs(error(there.redo).__class__, Nothing)
        self.assertEqual(looks(book), before)
        there.undo()
        there.do(("trust", ONE))
        self.assertEqual(looks(book), before)

    def test_tried_with_an_empty_list(self):
        book = made(*DEEDS[:3])
        book.undo()
        there = book.tried([])
        self.assertEqual(there, book)
        # A copy has the same to redo.
        self.assertEqual(there.redo(), DEEDS[2])
        self.assertEqual(len(book), 2)

    def test_tried_with_no_list(self):
        book = made(*DEEDS[:2])
        for thing in [(), tuple(DEEDS), DEEDS[0], {}, None, "", 0, Other(), *EVERY_KIND]:
            if thing.__class__ is not list:
                self.assertEqual(wrong_at(book.tried, thing), 0)

    def test_tried_with_a_deed_that_fails(self):
        book = made(*DEEDS[:1])
        before = looks(book)
        for deeds, at in (([DEEDS[0]], 0), ([None], 0), ([DEEDS[2], DEEDS[2]], 1), ([deep(20)], 0),
                          ([DEEDS[2], DEEDS[1], DEEDS[1], None], 2), ([DEEDS[2], ["trust", TWO]], 1),
                          ([("renew", 5, (LOW, 1), 7, 20, 40), DEEDS[0]], 0)):
            found = error(book.tried, deeds)
            self.assertEqual((found.__class__, found.at), (Broken, at))
            self.assertEqual(looks(book), before)
        for thing in EVERY_KIND:
            self.assertEqual(error(book.tried, [("trust", TWO), thing]).at, 1)

    def test_tried_beyond_a_hundred(self):
        self.assertEqual(len(Book().tried(trusts(100))), 100)
        self.assertEqual(error(Book().tried, trusts(101)).at, 100)
        self.assertEqual(error(made(*trusts(90)).tried, trusts(19000)).at, 10)


class Comparing(BookCase):

    def test_equal_if_their_logs_are(self):
        self.assertIs(Book() == Book(), True)
        self.assertIs(Book() != Book(), False)
        self.assertIs(made(*DEEDS) == made(*DEEDS), True)
        for many in range(len(DEEDS)):
            self.assertIs(made(*DEEDS) == made(*DEEDS[:many]), False)
            self.assertIs(made(*DEEDS) != made(*DEEDS[:many]), True)
        one, other = made(("trust", ONE), ("trust", TWO)), made(("trust", TWO), ("trust", ONE))
        self.assertEqual(one.store(), other.store())
        self.assertIs(one == other, False)
        again = made(("trust", anchor()), ("trust", anchor(MID)))
        self.assertIs(one == again, True)

    def test_what_can_be_redone_does_not_matter(self):
        book = made(*DEEDS)
        book.undo()
        self.assertIs(book == made(*DEEDS[:-1]), True)

    def test_equal_to_nothing_else(self):
        for thing in [*EVERY_KIND, [], (), Book, Other(), Store(), Archive([])]:
            if thing.__class__.__name__ != "Same":
                self.assertIs(Book() == thing, False)
                self.assertIs(Book() != thing, True)

    def test_papers_and_notices_in_one_place(self):
        self.assertIs(made(("arrive", 3, FIRST)) == made(("arrive", 3, NOTICE)), False)
        self.assertIs(made(("trust", ONE), ("trust", TWO)) == made(("trust", ONE), ("arrive", 3, FIRST)),
                      False)

    def test_len(self):
        book = Book()
        for many, deed in enumerate(DEEDS):
            self.assertEqual(len(book), many)
            book.do(deed)
        book.undo()
        self.assertEqual(len(book), len(DEEDS) - 1)


class AsArguments(BookCase):

    def test_lists_belong_to_the_caller(self):
        book = made(*DEEDS)
        book.log().clear()
        self.assertEqual(book.log(), DEEDS)
        self.assertIsNot(book.log(), book.log())
        deeds = [("trust", TWO), ("distrust", TWO)]
        there = book.tried(deeds)
        deeds.clear()
        self.assertEqual(len(there), len(DEEDS) + 2)
        book.store().anchors().clear()
        self.assertEqual(book.past(1).store(), Store([ONE]))

    def test_stores_and_archives_do_not_change_with_the_book(self):
        book = made(*DEEDS[:1])
        store, archive = book.store(), book.archive()
        book.do(DEEDS[2])
        book.do(("distrust", ONE))
        self.assertEqual(store, Store([ONE]))
        self.assertEqual(archive.whole(), Bag())
        self.assertEqual(book.archive().whole(), Bag([FIRST]))

    def test_drawn_books(self):
        """Against a plain model: the list of the deeds, done anew from the beginning."""
        counts = {}
        for seed in range(60):
            source = drawing(seed)
            book, log, undone = Book(), [], []
            for _ in range(60):
                word = source.choice(["do", "do", "do", "undo", "redo", "put_in"])
                deed = self.deed(source)
                at = source.randint(-1, len(log) + 1)
                before = looks(book)
                found = error(*{"do": (book.do, deed), "undo": (book.undo,), "redo": (book.redo,),
                                "put_in": (book.put_in, at, deed)}[word])
                log, undone = self.model(word, deed, at, log, undone, found)
                counts[found.__class__.__name__] = counts.get(found.__class__.__name__, 0) + 1
                if found is not None:
                    self.assertEqual(looks(book), before)
                self.assertEqual(book.log(), log, seed)
            self.assertEqual(looks(book)[:4], looks(made(*log))[:4])
            self.assertEqual(looks(book)[4], undone[::-1])
        self.assertGreater(min(counts[name] for name in ("Taken", "Unknown", "Broken", "Wrong")), 10)

    def model(self, word, deed, at, log, undone, found):
        """(log, undone) behind a call that raised an error or none."""
        if found is not None:
            return (log, undone)
        if word == "undo":
            return (log[:-1], [*undone, log[-1]])
        if word == "redo":
            return ([*log, undone[-1]], undone[:-1])
        at = len(log) if word == "do" else at
        return ([*log[:at], deed, *log[at:]], [])

    def deed(self, source):
        anchors = [ONE, TWO, anchor(LOW)]
        units = [(ROOT, 1), (MID, 1), (ROOT, 2), (LOW, 1)]
        day = source.randint(0, 9)
        return source.choice([
            ("trust", source.choice(anchors)), ("distrust", source.choice(anchors)),
            ("arrive", day, source.choice([FIRST, LAST, NOTICE])),
            ("renew", day, source.choice(units), source.randint(1, 3), 5, source.choice([9, 99])),
            ("back", day, source.choice(units), source.randint(0, 9)), ("trust",)])

    def test_a_book_answers_as_its_store_and_archive_do(self):
        for seed, stores, bag, asked in worlds.worlds(500, 20):
            deeds = [("trust", one) for one in stores.anchors()]
            deeds += [("arrive", 0, one) for one in [*bag.papers(), *bag.notices()]]
            book = made(*deeds)
            self.assertEqual((book.store(), book.archive().whole()), (stores, bag))
            self.assertEqual(book.archive().then(book.store(), asked),
                             Archive([(0, one) for one in [*bag.papers(), *bag.notices()]])
                             .now(stores, asked))

    def test_wrong_is_of_the_package(self):
        with self.assertRaises(Wrong):
            Book().past(None)


if __name__ == "__main__":
    unittest.main()
