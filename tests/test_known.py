"""Point 71, and guarantee 10."""

import unittest

from vouchchains.bags import Bag, Question, Store
from vouchchains.days import Days
from vouchchains.errors import TooMany
from vouchchains.known import Archive
from vouchchains.limits import Limits
from vouchchains.papers import Anchor, Notice, Paper
from vouchchains.searching import search
from vouchchains.spans import breaks, open_days
from kinds import EVERY_KIND, NO_DAYS, Other, deep, drawing, shuffled, wrong_at
import worlds

LAST = 10 ** 9
ROOT, MID, END = (("root",), "r"), (("mid",), "m"), (("mid", "web"), "w")


def paper(first, last, serial=1, issuer=ROOT, holder=END, **more):
    return Paper(issuer, serial, holder, Limits(first, last, **{"steps": 8, **more}))


def anchor(first=0, last=LAST, **more):
    return Anchor(ROOT, Limits(first, last, **{"steps": 8, **more}))


STORE = Store([anchor()])
ONE = paper(10, 50)
NOTICE = Notice(ROOT, 20, 30, [(1, 40)])


def ask(day=30, **more):
    return Question(END, "web", day, **more)


def is_open(store, bag, question, **more):
    return search(store, bag, question, **more)[0] == "open"


def drawn(seed):
    """(store, items, question): a world whose papers and notices arrive on some days."""
    source = drawing(seed)
    store, bag, asked = worlds.things(source)
    items = [(source.choice([0, 0, 1, 3, 5, 8, 11, 14]), thing)
             for thing in [*bag.papers(), *bag.notices()] for _ in range(source.choice([1, 1, 2]))]
    holders = [paper.holder for paper in bag.papers()]
    return (store, shuffled(items, seed), asked.about(source.choice(holders)))


class Bags(unittest.TestCase):

    ITEMS = [(5, ONE), (0, NOTICE), (9, paper(0, 3, 2)), (LAST, paper(0, 3, 3))]

    def test_before_at_and_behind_an_arrival(self):
        archive = Archive(self.ITEMS)
        for day, papers, notices in ((0, [], [NOTICE]), (4, [], [NOTICE]), (5, [ONE], [NOTICE]),
                                     (8, [ONE], [NOTICE]), (9, [ONE, paper(0, 3, 2)], [NOTICE]),
                                     (LAST - 1, [ONE, paper(0, 3, 2)], [NOTICE])):
            self.assertEqual(archive.bag(day), Bag(papers, notices))
        self.assertEqual(archive.bag(LAST), archive.whole())
        self.assertEqual(archive.whole(), Bag([thing for _, thing in self.ITEMS
                                               if isinstance(thing, Paper)], [NOTICE]))

    def test_nothing(self):
        for archive in (Archive([]), Archive(()), Archive(items=[])):
            self.assertEqual([archive.bag(0), archive.bag(LAST), archive.whole()], [Bag()] * 3)
            self.assertEqual(archive.late(), [])
            self.assertIs(archive.then(STORE, ask()), False)
            self.assertIs(archive.now(STORE, ask()), False)
            self.assertEqual(archive.then_days(STORE, ask()), Days())
            self.assertEqual(archive.now_days(STORE, ask()), Days())
            self.assertEqual(archive.turned(STORE, ask()), (Days(), Days()))
            self.assertEqual(archive.history(STORE, ask()), [(0, False)])

    def test_several_arrivals_of_one_thing(self):
        archive = Archive([(9, ONE), (5, ONE), (7, ONE), (6, NOTICE), (3, NOTICE), (5, ONE)])
        self.assertEqual(archive.bag(4), Bag([], [NOTICE]))
        self.assertEqual(archive.bag(5), Bag([ONE], [NOTICE]))
        self.assertEqual(archive.whole(), Bag([ONE], [NOTICE]))

    def test_lists_and_tuples_in_any_order(self):
        for number in range(4):
            items = shuffled(self.ITEMS * 2, number)
            for archive in (Archive(items), Archive(tuple(items))):
                for day in (0, 5, 9, LAST):
                    self.assertEqual(archive.bag(day), Archive(self.ITEMS).bag(day))

    def test_items_are_copied(self):
        items = list(self.ITEMS)
        archive = Archive(items)
        items.clear()
        self.assertEqual(len(archive.whole()), 3)
        archive.whole().papers().clear()
        archive.late().clear()
        self.assertEqual((len(archive.whole()), len(archive.late())), (3, 2))


class Late(unittest.TestCase):

    def test_before_at_and_behind_the_first_day(self):
        for day, late in ((0, []), (9, []), (10, []), (11, [ONE]), (60, [ONE])):
            self.assertEqual(Archive([(day, ONE)]).late(), late)

    def test_the_first_arrival_counts(self):
        self.assertEqual(Archive([(30, ONE), (10, ONE)]).late(), [])
        self.assertEqual(Archive([(30, ONE), (11, ONE), (40, ONE)]).late(), [ONE])

    def test_notices_are_never_late(self):
        self.assertEqual(Archive([(90, NOTICE), (90, Notice(ROOT, 90, 10))]).late(), [])

    def test_ascending_and_different(self):
        papers = [paper(5, 9, serial) for serial in range(6)]
        wanted = papers[1:5]
        for number in range(4):
            items = [(6, one) for one in wanted * 2] + [(5, papers[0]), (0, papers[5])]
            found = Archive(shuffled(items, number)).late()
            self.assertEqual(found, wanted)
            self.assertIs(found.__class__, list)

    def test_papers_without_days(self):
        self.assertEqual(Archive([(7, paper(7, 3))]).late(), [])
        self.assertEqual(Archive([(8, paper(7, 3))]).late(), [paper(7, 3)])

    def test_drawn_ones(self):
        for seed in range(4000, 4040):
            store, items, asked = drawn(seed)
            wanted = {thing.row() for day, thing in items if isinstance(thing, Paper)
                      and all(known > thing.limits.first for known, one in items if one == thing)}
            self.assertEqual([one.row() for one in Archive(items).late()], sorted(wanted), seed)


class Answers(unittest.TestCase):

    def test_then_and_now(self):
        archive = Archive([(20, ONE), (60, Notice(ROOT, 0, 0, [(1, 35)]))])
        for day, then, now in ((9, False, False), (10, False, True), (19, False, True),
                               (20, True, True), (34, True, True), (35, True, False),
                               (50, True, False), (51, False, False)):
            self.assertIs(archive.then(STORE, ask(day)), then)
            self.assertIs(archive.now(STORE, ask(day)), now)

    def test_days(self):
        archive = Archive([(20, ONE), (60, Notice(ROOT, 0, 0, [(1, 35)]))])
        for day in (0, 30, LAST):
            self.assertEqual(archive.then_days(STORE, ask(day)), Days([(20, 50)]))
            self.assertEqual(archive.now_days(STORE, ask(day)), Days([(10, 34)]))
            self.assertEqual(archive.turned(STORE, ask(day)),
                             (Days([(35, 50)]), Days([(10, 19)])))
        self.assertIs(archive.turned(STORE, ask()).__class__, tuple)

    def test_an_arrival_between_breaks(self):
        archive = Archive([(13, paper(0, LAST)), (17, Notice(ROOT, 5, 5, [(1, 2)]))])
        self.assertEqual(archive.then_days(STORE, ask()), Days([(13, 16)]))
        self.assertEqual(archive.now_days(STORE, ask()), Days([(0, 1)]))

    def test_arrivals_on_the_first_and_the_last_day(self):
        archive = Archive([(LAST, paper(0, LAST))])
        self.assertEqual(archive.then_days(STORE, ask()), Days([(LAST, LAST)]))
        self.assertEqual(archive.now_days(STORE, ask()), Days([(0, LAST)]))
        self.assertEqual(Archive([(0, paper(0, LAST))]).then_days(STORE, ask()), Days([(0, LAST)]))

    def test_history(self):
        back = Notice(ROOT, 0, 0, [(1, 35)])
        archive = Archive([(60, back), (20, ONE), (30, ONE), (70, paper(40, 50, 2)), (80, NOTICE)])
        self.assertEqual(archive.history(STORE, ask(42)),
                         [(0, False), (20, True), (60, False), (70, True)])
        self.assertEqual(archive.history(STORE, ask(34)), [(0, False), (20, True)])
        self.assertEqual(archive.history(STORE, ask(60)), [(0, False)])
        self.assertEqual(Archive([(0, ONE)]).history(STORE, ask()), [(0, True)])
        self.assertEqual(Archive([(0, ONE), (0, back)]).history(STORE, ask(36)), [(0, False)])
        told = archive.history(STORE, ask(42))
        self.assertTrue(all(answer is True or answer is False for _, answer in told))

    def test_history_knows_all_days_of_arrival_whatever_day_is_asked(self):
        archive = Archive([(90, ONE)])
        self.assertEqual(archive.history(STORE, ask(20)), [(0, False), (90, True)])
        self.assertIs(archive.then(STORE, ask(20)), False)

    def test_strict(self):
        archive = Archive([(0, ONE), (25, Notice(ROOT, 20, 30))])
        self.assertEqual(archive.turned(STORE, ask(strict=True)), (Days(), Days([(20, 24)])))
        self.assertEqual(archive.then_days(STORE, ask(strict=True)), Days([(25, 30)]))
        self.assertEqual(archive.then_days(STORE, ask()), Days([(10, 50)]))

    def test_drawn_ones_against_search_in_the_bag_of_each_day(self):
        turned = 0
        for seed in range(4100, 4200):
            store, items, asked = drawn(seed)
            archive, days = Archive(items), (*range(18), 500, LAST)
            then = [is_open(store, archive.bag(day), asked.on(day)) for day in days]
            now = [is_open(store, archive.whole(), asked.on(day)) for day in days]
            then_days, now_days = archive.then_days(store, asked), archive.now_days(store, asked)
            self.assertEqual([day in then_days for day in days], then, seed)
            self.assertEqual([day in now_days for day in days], now, seed)
            self.assertEqual(now_days, open_days(store, archive.whole(), asked))
            for at, day in enumerate(days):
                self.assertIs(archive.then(store, asked.on(day)), then[at])
                self.assertIs(archive.now(store, asked.on(day)), now[at])
            closed, opened = archive.turned(store, asked)
            self.assertEqual((closed, opened), (then_days - now_days, now_days - then_days))
            turned += bool(closed) + bool(opened)
            told = [(day, is_open(store, archive.bag(day), asked)) for day in range(20)]
            wanted = [row for at, row in enumerate(told) if at == 0 or told[at - 1][1] != row[1]]
            self.assertEqual(archive.history(store, asked), wanted, seed)
            # Guarantee 10.
            if not archive.late() and not asked.strict:
                self.assertEqual(opened, Days(), seed)
        self.assertGreater(turned, 20)

    def test_then_if_now_where_no_paper_is_late(self):
        closed = 0
        for seed in range(4300, 4400):
            store, items, asked = drawn(seed)
            items = items + [(14, Notice(one.issuer, 0, 0, [(one.serial, 3)]))
                             for _, one in items if isinstance(one, Paper)][:2]
            early = [(min(day, thing.limits.first) if isinstance(thing, Paper) else day, thing)
                     for day, thing in items]
            archive = Archive(early)
            question = Question(asked.holder, asked.use, asked.day, asked.rules)
            self.assertEqual(archive.late(), [])
            self.assertEqual(archive.turned(store, question)[1], Days(), seed)
            closed += bool(archive.turned(store, question)[0])
        self.assertGreater(closed, 5)


class Limit(unittest.TestCase):

    FAN = [paper(20, 29, 1, ROOT, ((letter,), "k"), any_rule=False) for letter in "abcd"]
    STORE = Store([anchor(any_rule=False)])

    def check(self, call, *arguments, limit):
        with self.assertRaises(TooMany) as caught:
            call(*arguments, limit=limit)
        self.assertEqual(caught.exception.limit, limit)

    def test_days_on_one_of_the_breaks_or_a_day_of_arrival(self):
        archive = Archive([(0, one) for one in self.FAN])
        for call in (archive.then_days, archive.now_days, archive.turned):
            for day in (5, 25, 60):
                self.check(call, self.STORE, ask(day), limit=4)
                call(self.STORE, ask(day), limit=5)

    def test_what_has_not_arrived_then(self):
        archive = Archive([(25, one) for one in self.FAN[:3]] + [(30, self.FAN[3])])
        archive.then_days(self.STORE, ask(), limit=4)
        self.check(archive.then_days, self.STORE, ask(), limit=3)
        for call in (archive.now_days, archive.turned):
            self.check(call, self.STORE, ask(), limit=4)
            call(self.STORE, ask(), limit=5)

    def test_then_turned_although_now_has_fewer(self):
        back = Notice(ROOT, 0, 0, [(1, 0)])
        archive = Archive([*[(0, one) for one in self.FAN], (60, back)])
        archive.now_days(self.STORE, ask(), limit=1)
        for call in (archive.then_days, archive.turned):
            self.check(call, self.STORE, ask(), limit=4)
            call(self.STORE, ask(), limit=5)

    def test_then_and_now_on_their_day_alone(self):
        archive = Archive([(25, one) for one in self.FAN[:3]] + [(30, self.FAN[3])])
        for day, then, now in ((19, 1, 1), (20, 1, 5), (24, 1, 5), (25, 4, 5), (29, 4, 5),
                               (30, 1, 1)):
            for call, most in ((archive.then, then), (archive.now, now)):
                self.assertIs(call(self.STORE, ask(day), limit=most), False)
                if most > 1:
                    self.check(call, self.STORE, ask(day), limit=most - 1)

    def test_history_in_one_of_the_bags(self):
        archive = Archive([*[(at, one) for at, one in enumerate(self.FAN)],
                           (50, Notice(ROOT, 0, 0, [(1, 0)]))])
        self.check(archive.history, self.STORE, ask(25), limit=4)
        self.assertEqual(archive.history(self.STORE, ask(25), limit=5), [(0, False)])
        self.assertEqual(archive.history(self.STORE, ask(15), limit=1), [(0, False)])

    def test_it_is_told_by_keyword_and_may_be_left_out(self):
        archive = Archive([(0, ONE)])
        for call in (archive.then, archive.now, archive.then_days, archive.now_days,
                     archive.turned, archive.history):
            self.assertEqual(call(STORE, ask()), call(STORE, ask(), limit=4000))
            with self.assertRaises(TypeError):
                call(STORE, ask(), 400)

    def test_left_out_it_is_400(self):
        words = ["r" + one + other for one in "abcdefghijklmnopqrst"
                 for other in "abcdefghijklmnopqrst"]
        several = [paper(0, LAST, at, MID, MID, steps=0, pairs=[
            (words[first], words[first + 1]) for first in range(at, min(at + 16, 400), 2)])
            for at in range(0, 400, 16)]
        archive = Archive([(0, one) for one in several])
        for call in (archive.then, archive.now, archive.then_days, archive.now_days,
                     archive.turned, archive.history):
            with self.assertRaises(TooMany) as caught:
                call(STORE, ask())
            self.assertEqual(caught.exception.limit, 400)
            call(STORE, ask(), limit=402)


class WrongItems(unittest.TestCase):

    def test_everything_that_is_no_list_or_tuple_of_items(self):
        items = [(0, ONE), (5, NOTICE)]
        for thing in EVERY_KIND:
            if thing.__class__ in (list, tuple) and not thing:
                continue
            self.assertEqual(wrong_at(Archive, thing), 0, thing)
        for thing in ({0: ONE}, {0: (0, ONE)}, ONE, (0, ONE), [0, ONE], Other(), deep(29),
                      Bag([ONE]), iter(items), "ab", items[0]):
            self.assertEqual(wrong_at(Archive, thing), 0, thing)

    def test_every_wrong_item(self):
        items = [(0, ONE), (5, NOTICE)]
        wrong = [thing for thing in EVERY_KIND]
        wrong += [(day, ONE) for day in NO_DAYS]
        wrong += [(0, thing) for thing in EVERY_KIND]
        wrong += [(0, anchor()), (0, Bag([ONE])), (0, ONE.limits), (0, ONE.row()), (0, [ONE])]
        wrong += [[0, ONE], (0,), (ONE,), (0, ONE, ONE), (ONE, 0), {0: ONE}, ((0, ONE),)]
        for thing in wrong:
            for several in ([thing], [*items, thing], (thing, *items), [items[0], thing, items[1]]):
                self.assertEqual(wrong_at(Archive, several), 0, thing)

    def test_nothing_else_is_wrong(self):
        for day in (0, 1, LAST):
            for thing in (ONE, NOTICE, paper(9, 3), Notice(ROOT, 9, 3)):
                for items in ([(day, thing)], ((day, thing),), [(day, thing)] * 60):
                    self.assertIsNone(wrong_at(Archive, items))

    def test_wrong_changes_nothing(self):
        items = [(0, ONE), (5, NOTICE), None]
        self.assertEqual(wrong_at(Archive, items), 0)
        self.assertEqual(items, [(0, ONE), (5, NOTICE), None])


class Again(unittest.TestCase):

    def test_everything_asked_again(self):
        for seed in range(4400, 4420):
            store, items, asked = drawn(seed)
            archive, other = Archive(items), Archive(tuple(shuffled(items * 2, seed)))
            for call in ("then", "now", "then_days", "now_days", "turned", "history"):
                told = getattr(archive, call)(store, asked)
                again = getattr(other, call)(store, asked)
                self.assertEqual(told, again, seed)
                if call == "history":
                    told.clear()
                self.assertEqual(getattr(archive, call)(store, asked), again, seed)
            self.assertEqual(breaks(store, archive.whole()), breaks(store, other.whole()))


if __name__ == "__main__":
    unittest.main()
