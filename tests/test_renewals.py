"""Points 72, 73 and 74."""

import itertools
import unittest

from vouchchains.bags import Bag, Question, Store
from vouchchains.days import Days
from vouchchains.judging import holds
from vouchchains.limits import Limits
from vouchchains.papers import Anchor, Notice, Paper
from vouchchains.renewals import cheapest, cover, with_paper
from kinds import drawing
import plain
import worlds

LAST = 10 ** 9
ROOT, MID, END = (("root",), "r"), (("mid",), "m"), (("mid", "web"), "w")
KEEPERS = [ROOT, MID, (("low",), "l"), END]


def paper(place, first=0, last=LAST, serial=1, **more):
    """A paper of the line from ROOT to END, places being counted from 1."""
    return Paper(KEEPERS[place - 1], serial, KEEPERS[place],
                 Limits(first, last, **{"steps": 8, **more}))


LINE = [paper(1, 0, 60), paper(2, 10, 50), paper(3, 5, 70)]
STORE = Store([Anchor(ROOT, Limits(0, 99, steps=8))])


def ask(day=30, **more):
    return Question(END, "web", day, **more)


class WithPaper(unittest.TestCase):

    def days(self, at, other, bag=None, path=None, **more):
        return with_paper(STORE, Bag(LINE) if bag is None else bag, ask(**more), path or LINE, at,
                          other)

    def test_at_each_place(self):
        self.assertEqual(self.days(0, paper(1, 20, 90, 2)), Days([(20, 50)]))
        self.assertEqual(self.days(1, paper(2, 20, 90, 2)), Days([(20, 60)]))
        self.assertEqual(self.days(2, paper(3, 30, 40, 2)), Days([(30, 40)]))
        self.assertIsInstance(self.days(2, paper(3, 30, 40, 2)), Days)

    def test_the_same_paper(self):
        for at in range(3):
            self.assertEqual(self.days(at, LINE[at]), Days([(10, 50)]))
            self.assertEqual(self.days(at, LINE[at], Bag(LINE[:at] + LINE[at + 1:])),
                             Days([(10, 50)]))

    def test_a_path_of_one_paper(self):
        one, other = Paper(ROOT, 1, END, Limits(5, 9)), Paper(ROOT, 2, END, Limits(7, 12))
        for bag in (Bag([one]), Bag(), Bag([other])):
            self.assertEqual(with_paper(STORE, bag, ask(), [one], 0, other), Days([(7, 12)]))

    def test_a_paper_that_the_bag_has(self):
        other = paper(2, 0, 99, 2)
        for bag in (Bag(LINE), Bag([*LINE, other])):
            self.assertEqual(self.days(1, other, bag), Days([(5, 60)]))

    def test_renewed(self):
        renewed = LINE[1].renewed(7, 40, 99)
        self.assertEqual(self.days(1, renewed), Days([(40, 60)]))

    def test_the_bag_need_not_have_the_paper_that_is_replaced(self):
        for at in range(3):
            bag = Bag(LINE[:at] + LINE[at + 1:])
            self.assertEqual(self.days(at, paper(at + 1, 0, 99, 2), bag),
                             self.days(at, paper(at + 1, 0, 99, 2)))

    def test_a_bag_that_lacks_another_paper(self):
        for at, lacking in itertools.permutations(range(3), 2):
            bag = Bag([one for place, one in enumerate(LINE) if place != lacking])
            self.assertEqual(self.days(at, paper(at + 1, 0, 99, 2), bag), Days())

    def test_the_other_one_is_the_very_paper_that_is_added(self):
        ring = Paper(ROOT, 1, ROOT, Limits(0, 40, steps=8))
        asked = Question(ROOT, "web", 0)
        self.assertEqual(with_paper(STORE, Bag(), asked, [ring, ring], 0, ring), Days([(0, 40)]))
        other = Paper(ROOT, 2, ROOT, Limits(20, 90, steps=8))
        self.assertEqual(with_paper(STORE, Bag(), asked, [ring, other], 0, other),
                         Days([(20, 90)]))
        self.assertEqual(with_paper(STORE, Bag(), asked, [ring, ring], 0, other), Days())
        self.assertEqual(with_paper(STORE, Bag([ring]), asked, [ring, ring], 0, other),
                         Days([(20, 40)]))

    def test_back(self):
        for issuer, entry, days in ((MID, (2, 30), Days([(5, 29)])), (MID, (2, 0), Days()),
                                    (MID, (1, 30), Days([(5, 60)])),
                                    (ROOT, (1, 30), Days([(5, 29)]))):
            bag = Bag(LINE, [Notice(issuer, 0, 0, [entry])])
            self.assertEqual(self.days(1, paper(2, 0, 99, 2), bag), days)

    def test_covered(self):
        several = [Notice(ROOT, 0, 99), Notice(MID, 20, 30), Notice(MID, 40, 45),
                   Notice(KEEPERS[2], 25, 99)]
        other = paper(2, 0, 99, 2)
        self.assertEqual(self.days(1, other, Bag(LINE, several), strict=True),
                         Days([(25, 30), (40, 45)]))
        self.assertEqual(self.days(1, other, Bag(LINE, several)), Days([(5, 60)]))
        self.assertEqual(self.days(1, other, Bag(LINE, several[1:]), strict=True), Days())

    def test_a_paper_that_does_not_fit(self):
        self.assertEqual(self.days(1, paper(3, 0, 99, 2)), Days())
        self.assertEqual(self.days(2, Paper(KEEPERS[2], 2, MID, Limits(0, 99))), Days())
        self.assertEqual(self.days(0, paper(1, 0, 99, 2, uses=["mail"])), Days())
        self.assertEqual(self.days(0, paper(1, 0, 99, 2, steps=1)), Days())

    def test_rules_that_the_paper_names(self):
        made = Store([Anchor(ROOT, Limits(0, 99, steps=8, unruled_for=0))])
        path = [paper(1), paper(2, any_rule=False, pairs=[("a", "a")]), paper(3)]
        other = paper(3, 0, 50, 2, any_rule=False, pairs=[("b", "b")])
        self.assertEqual(with_paper(made, Bag(path), ask(), path, 2, other), Days())
        other = paper(3, 0, 50, 2, any_rule=False, pairs=[("a", "a")])
        self.assertEqual(with_paper(made, Bag(path), ask(), path, 2, other), Days([(0, 50)]))

    def test_the_day_of_the_question_means_nothing(self):
        for day in (0, 45, LAST):
            self.assertEqual(self.days(1, paper(2, 20, 90, 2), day=day), Days([(20, 60)]))

    def test_the_last_day(self):
        made = Store([Anchor(ROOT, Limits(0, LAST, steps=8))])
        self.assertEqual(with_paper(made, Bag([paper(1)]), Question(MID, "web", 0), [paper(1)], 0,
                                    paper(1, 7, LAST, 2)), Days([(7, LAST)]))

    def test_arguments_are_left_as_they_are(self):
        path, bag = list(LINE), Bag(LINE)
        other = paper(2, 20, 90, 2)
        told = [with_paper(STORE, bag, ask(), path, 1, other) for _ in range(2)]
        self.assertEqual(told[0], told[1])
        self.assertEqual((path, bag, other in bag), (LINE, Bag(LINE), False))

    def test_drawn_worlds_day_by_day(self):
        held = 0
        for seed, store, bag, asked in worlds.worlds(5000, 80):
            source = drawing(seed)
            lines = [line for many in (1, 2, 3) for line in plain.lines(bag, many)]
            for path in source.sample(lines, min(6, len(lines))):
                at = source.randrange(len(path))
                old = path[at]
                other = old.renewed(source.randint(1, 4), source.randint(0, 4),
                                    source.randint(6, 12))
                question = asked.about(path[-1].holder)
                days = with_paper(store, bag, question, path, at, other)
                replaced, wider = [*path[:at], other, *path[at + 1:]], bag | Bag([other])
                for day in (*range(16), LAST):
                    wanted = plain.holds(store, wider, question.on(day), replaced)
                    self.assertEqual(day in days, wanted, (seed, day))
                    self.assertIs(holds(store, wider, question.on(day), replaced), wanted)
                held += bool(days)
        self.assertGreater(held, 40)


def drawn_offers(source, many, most):
    return [(source.randint(0, most), source.randint(0, most)) for _ in range(many)]


def drawn_days(source, most):
    return Days([(first, first + source.randint(0, 4))
                 for first in source.sample(range(most), source.randint(0, 3))])


def has_all(wanted, offers):
    return wanted.within(Days(offers))


def fewest(wanted, offers):
    """How many offers are needed, by trying all sets."""
    return next(many for many in range(len(offers) + 1)
                if any(has_all(wanted, some) for some in itertools.combinations(offers, many)))


class Cover(unittest.TestCase):

    def test_no_wanted_days(self):
        for offers in ([], [(0, 9)], [(9, 0)]):
            self.assertEqual(cover(Days(), offers), ("cover", [], []))

    def test_bare_days(self):
        self.assertEqual(cover(Days([(5, 9)]), []), ("bare", 5))
        self.assertEqual(cover(Days([(5, 9)]), [(0, 6)]), ("bare", 7))
        self.assertEqual(cover(Days([(5, 9)]), [(6, 9)]), ("bare", 5))
        self.assertEqual(cover(Days([(5, 9)]), [(0, 6), (8, 20)]), ("bare", 7))
        self.assertEqual(cover(Days([(5, 9), (30, 40)]), [(0, 30)]), ("bare", 31))
        self.assertEqual(cover(Days([(0, LAST)]), [(0, LAST - 1)]), ("bare", LAST))
        self.assertEqual(cover(Days([(0, 3)]), [(1, LAST)]), ("bare", 0))

    def test_offers_without_days(self):
        self.assertEqual(cover(Days([(5, 9)]), [(9, 5)]), ("bare", 5))
        self.assertEqual(cover(Days([(5, 9)]), [(9, 5), (5, 9), (6, 4)]), ("cover", [1], [5]))

    def test_one_offer(self):
        told = cover(Days([(5, 9)]), [(0, 20)])
        self.assertEqual(told, ("cover", [0], [5]))
        self.assertIs(told.__class__, tuple)
        self.assertIs(told[1].__class__, list)
        self.assertIs(told[2].__class__, list)

    def test_offers_that_touch_and_overlap(self):
        self.assertEqual(cover(Days([(0, 9)]), [(0, 4), (5, 9)]), ("cover", [0, 1], [0, 5]))
        self.assertEqual(cover(Days([(0, 9)]), [(3, 9), (0, 4)]), ("cover", [1, 0], [0, 5]))
        self.assertEqual(cover(Days([(0, 9)]), [(0, 3), (0, 4), (4, 7), (5, 8), (5, 9)]),
                         ("cover", [1, 4], [0, 5]))

    def test_the_latest_last_day_and_then_the_least_index(self):
        self.assertEqual(cover(Days([(5, 9)]), [(5, 9), (0, 20), (3, 20), (5, 12)]),
                         ("cover", [1], [5]))
        self.assertEqual(cover(Days([(5, 9)]), [(3, 20), (0, 20), (3, 20)]), ("cover", [0], [5]))

    def test_offers_told_twice(self):
        offers = [(0, 4), (0, 4), (5, 9), (5, 9)]
        self.assertEqual(cover(Days([(0, 9)]), offers), ("cover", [0, 2], [0, 5]))

    def test_gaps_between_the_wanted_days(self):
        self.assertEqual(cover(Days([(0, 3), (20, 30)]), [(0, 10), (15, 30)]),
                         ("cover", [0, 1], [0, 20]))
        self.assertEqual(cover(Days([(0, 3), (20, 30)]), [(0, 10), (5, 30), (0, 25)]),
                         ("cover", [2, 1], [0, 26]))

    def test_the_last_day(self):
        self.assertEqual(cover(Days([(0, LAST)]), [(0, 5), (6, LAST)]), ("cover", [0, 1], [0, 6]))
        self.assertEqual(cover(Days([(LAST, LAST)]), [(LAST, LAST)]), ("cover", [0], [LAST]))

    def test_as_the_words_say(self):
        seen = {"bare": 0, "cover": 0}
        for seed in range(400):
            source = drawing(seed)
            wanted, offers = drawn_days(source, 12), drawn_offers(source, source.randint(0, 8), 14)
            told = cover(wanted, offers)
            seen[told[0]] += 1
            bare = [day for day in range(20) if day in wanted
                    and not any(first <= day <= last for first, last in offers)]
            if bare:
                self.assertEqual(told, ("bare", bare[0]), seed)
                continue
            word, indexes, days = told
            chosen = []
            for at, day in zip(indexes, days):
                had = Days([offers[index] for index in chosen])
                self.assertEqual(day, (wanted - had).earliest(), seed)
                having = [(-last, index) for index, (first, last) in enumerate(offers)
                          if first <= day <= last]
                self.assertEqual(at, min(having)[1], seed)
                chosen.append(at)
            self.assertTrue(has_all(wanted, [offers[at] for at in indexes]), seed)
            self.assertEqual(len(indexes), fewest(wanted, offers), seed)
            for first, last in offers:
                self.assertLessEqual(len([day for day in days if first <= day <= last]), 1)
        self.assertGreater(min(seen.values()), 80)

    def test_sixty_spans_and_offers(self):
        wanted = Days([(10 * at, 10 * at + 4) for at in range(60)])
        offers = [(10 * at, 10 * at + 5) for at in range(60)]
        told = cover(wanted, offers)
        self.assertEqual(told, ("cover", list(range(60)), [10 * at for at in range(60)]))

    def test_arguments_are_left_and_answers_stay(self):
        wanted, offers = Days([(0, 9)]), [(0, 4), (5, 9)]
        told = cover(wanted, offers)
        told[1].clear()
        told[2].clear()
        self.assertEqual(cover(wanted, offers), ("cover", [0, 1], [0, 5]))
        self.assertEqual((wanted, offers), (Days([(0, 9)]), [(0, 4), (5, 9)]))


class Cheapest(unittest.TestCase):

    def check(self, wanted, offers, prices, cost):
        """Check all that is said of an answer, and its cost."""
        told = cheapest(wanted, offers, prices)
        word, least, indexes, rows = told
        self.assertEqual((word, least), ("cover", cost))
        self.assertIs(told.__class__, tuple)
        self.assertEqual((indexes.__class__, rows.__class__), (list, list))
        self.assertEqual(indexes, sorted(set(indexes)))
        self.assertTrue(has_all(wanted, [offers[at] for at in indexes]))
        self.assertEqual(sum(prices[at] for at in indexes), cost)
        self.assertTrue(all(row.__class__ is tuple and len(row) == 2 for row in rows))
        days = [day for day, _ in rows]
        self.assertEqual(days, sorted(set(days)))
        self.assertTrue(all(day in wanted for day in days))
        self.assertTrue(all(price > 0 for _, price in rows))
        self.assertEqual(sum(price for _, price in rows), cost)
        for (first, last), price in zip(offers, prices):
            self.assertLessEqual(sum(more for day, more in rows if first <= day <= last), price)

    def test_no_wanted_days(self):
        self.assertEqual(cheapest(Days(), [], []), ("cover", 0, [], []))
        self.check(Days(), [(0, 9), (9, 0)], [5, 0], 0)

    def test_bare_days(self):
        for wanted, offers, day in ((Days([(5, 9)]), [], 5), (Days([(5, 9)]), [(0, 6)], 7),
                                    (Days([(5, 9)]), [(9, 5)], 5),
                                    (Days([(0, 3), (LAST, LAST)]), [(0, LAST - 1)], LAST)):
            self.assertEqual(cheapest(wanted, offers, [1] * len(offers)), ("bare", day))
            self.assertEqual(cover(wanted, offers), ("bare", day))

    def test_one_offer(self):
        self.check(Days([(5, 9)]), [(0, 20)], [7], 7)
        self.check(Days([(5, 9)]), [(5, 9), (0, 20)], [7, 6], 6)
        self.assertEqual(cheapest(Days([(5, 9)]), [(5, 9), (0, 20)], [7, 6])[2], [1])

    def test_many_cheap_ones_or_one_dear_one(self):
        offers = [(0, 9), (0, 3), (3, 6), (6, 9)]
        self.check(Days([(0, 9)]), offers, [10, 3, 3, 3], 9)
        self.assertEqual(cheapest(Days([(0, 9)]), offers, [10, 3, 3, 3])[2], [1, 2, 3])
        self.check(Days([(0, 9)]), offers, [8, 3, 3, 3], 8)
        self.assertEqual(cheapest(Days([(0, 9)]), offers, [8, 3, 3, 3])[2], [0])

    def test_prices_0(self):
        self.check(Days([(0, 9)]), [(0, 9)], [0], 0)
        self.assertEqual(cheapest(Days([(0, 9)]), [(0, 9)], [0]), ("cover", 0, [0], []))
        self.check(Days([(0, 9)]), [(0, 5), (4, 9), (0, 9)], [0, 4, 5], 4)
        self.check(Days([(0, 9)]), [(0, 5), (4, 9), (0, 9)], [0, 0, 0], 0)

    def test_equal_and_great_prices(self):
        self.check(Days([(0, 9)]), [(0, 5), (4, 9), (0, 9)], [4, 4, 8], 8)
        self.check(Days([(0, 9)]), [(0, 5), (4, 9), (0, 9)], [LAST, LAST, LAST], LAST)
        self.check(Days([(0, 9)]), [(0, 5), (4, 9)], [LAST, LAST - 1], 2 * LAST - 1)
        offers = [(at, at) for at in range(60)]
        self.check(Days([(0, 59)]), offers, [LAST] * 60, 60 * LAST)

    def test_offers_that_touch_or_have_no_day_or_are_told_twice(self):
        self.check(Days([(0, 9)]), [(0, 4), (5, 9)], [3, 4], 7)
        self.check(Days([(0, 9)]), [(4, 0), (0, 9), (9, 5)], [0, 5, 0], 5)
        self.check(Days([(0, 9)]), [(0, 9), (0, 9), (0, 9)], [5, 3, 4], 3)

    def test_gaps_and_the_last_day(self):
        self.check(Days([(0, 3), (20, 30)]), [(0, 10), (15, 30), (0, 30)], [3, 4, 8], 7)
        self.check(Days([(0, LAST)]), [(0, 5), (6, LAST), (0, LAST)], [3, 4, 6], 6)
        self.check(Days([(LAST, LAST)]), [(0, LAST), (LAST, LAST)], [3, 4], 3)

    def test_against_all_sets_of_few_offers(self):
        seen = {"bare": 0, "cover": 0}
        for seed in range(1000, 1400):
            source = drawing(seed)
            wanted, offers = drawn_days(source, 12), drawn_offers(source, source.randint(0, 8), 16)
            prices = [source.choice([0, 1, 2, 3, 5, 9]) for _ in offers]
            told = cheapest(wanted, offers, prices)
            seen[told[0]] += 1
            if told[0] == "bare":
                self.assertEqual(told, cover(wanted, offers), seed)
                continue
            self.assertEqual(cover(wanted, offers)[0], "cover")
            costs = [sum(prices[at] for at in some) for many in range(len(offers) + 1)
                     for some in itertools.combinations(range(len(offers)), many)
                     if has_all(wanted, [offers[at] for at in some])]
            self.check(wanted, offers, prices, min(costs))
        self.assertGreater(min(seen.values()), 80)

    def test_sixty_spans_and_offers(self):
        source = drawing(7)
        wanted = Days([(20 * at, 20 * at + 9) for at in range(60)])
        offers = [(40 * at, 40 * at + source.randint(45, 60)) for at in range(30)]
        offers += [(first, first + 70) for first in range(0, 1190, 41)]
        prices = [source.randint(0, LAST) for _ in offers]
        self.check(wanted, offers, prices, cheapest(wanted, offers, prices)[1])

    def test_arguments_are_left_and_answers_stay(self):
        wanted, offers, prices = Days([(0, 9)]), [(0, 4), (5, 9)], [3, 4]
        told = cheapest(wanted, offers, prices)
        copied = (told[0], told[1], list(told[2]), list(told[3]))
        told[2].clear()
        told[3].clear()
        self.assertEqual(cheapest(wanted, offers, prices), copied)
        self.assertEqual((wanted, offers, prices), (Days([(0, 9)]), [(0, 4), (5, 9)], [3, 4]))


if __name__ == "__main__":
    unittest.main()
