"""Guarantees 8, 9 and 11 to 14, and 16 for what goes by sets of units, anchors and further papers.

The worlds are small enough to follow all paths of up to eight papers, and to try all small sets.
"""

import itertools
import unittest

from vouchchains.bags import Bag, Question, Store
from vouchchains.fewest import is_shown, shut
from vouchchains.further import atlas, opened, paper_for
from vouchchains.limits import Limits
from vouchchains.papers import Paper
from vouchchains.pledges import Pledge, issued, open_names, opens
from vouchchains.regions import Region
from vouchchains.searching import is_table, search, table
from vouchchains.spans import breaks
from vouchchains.trust import add, distrusted, opening
from kinds import drawing
from renaming import Words
import plain
import worlds

MOST = 8


def unit(one):
    return (one.issuer, one.serial)


def is_open(store, bag, question):
    """Whether some path holds, by following all of them."""
    lines = [[one] for one in bag.papers()]
    for _ in range(MOST):
        if any(line[-1].holder == question.holder and plain.holds(store, bag, question, line)
               for line in lines):
            return True
        lines = [[*line, one] for line in lines for one in bag.papers()
                 if one.issuer == line[-1].holder]
    return False


def held(store, bag, question, most=MOST):
    """All paths that hold."""
    return plain.paths(store, bag, question, most)


def small(first, many, most_papers=5):
    """Drawn worlds with few papers, each asked for a holder that some paper binds."""
    for seed, store, bag, asked in worlds.worlds(first, many, most_papers):
        source = drawing(seed)
        yield (seed, source, store, bag, asked.about(source.choice(bag.papers()).holder))


class PathOrTable(unittest.TestCase):

    def test_search_against_all_paths(self):
        words = []
        for seed, source, store, bag, asked in small(0, 120):
            word, told = search(store, bag, asked)
            words.append(word)
            self.assertEqual(word == "open", is_open(store, bag, asked), seed)
            if word == "shut":
                self.assertIs(is_table(store, bag, asked, told), True)
        self.assertGreater(words.count("open"), 20)
        self.assertGreater(words.count("shut"), 30)

    def test_a_table_for_each_row_without_a_path(self):
        rows = 0
        for seed, source, store, bag, asked in small(200, 120):
            questions = [asked, asked.about(source.choice(worlds.HOLDERS))]
            kept = [asked.about(one.holder) for one in bag.papers()[:2]]
            for units, at, path in shut(store, bag, questions, kept=kept)[-1]:
                rest = bag.without(units)
                rows += 1
                if path is None:
                    word, told = search(store, rest, kept[at])
                    self.assertEqual(word, "shut")
                    self.assertIs(is_table(store, rest, kept[at], told), True)
                    self.assertFalse(is_open(store, rest, kept[at]), seed)
                else:
                    self.assertTrue(plain.holds(store, rest, questions[at], path), seed)
        self.assertGreater(rows, 60)


class BetweenBreaks(unittest.TestCase):

    def test_nothing_changes_between_them(self):
        for seed, source, store, bag, asked in small(400, 25):
            days = breaks(store, bag)
            several = [Pledge(source.choice(worlds.HOLDERS), Region.under(()), Limits(0, 12, steps=3))]
            pool = [worlds.anchor(source, 0.9) for _ in range(2)]
            known = sorted({*days, *breaks(Store(pool), Bag([], []))})
            for day in range(0, 14):
                first = max(one for one in known if one <= day)
                one, other = asked.on(first), asked.on(day)
                rule = (asked.rules, asked.strict)
                self.assertEqual(shut(store, bag, [one]), shut(store, bag, [other]), seed)
                self.assertEqual(add(store, bag, [one], pool), add(store, bag, [other], pool), seed)
                self.assertEqual(distrusted(store, bag, [one]), distrusted(store, bag, [other]))
                self.assertEqual(opened(store, bag, one.holder, one.use, first, *rule),
                                 opened(store, bag, one.holder, one.use, day, *rule), seed)
                if first <= day <= 12:
                    self.assertEqual(open_names(store, bag, several, one.use, first, *rule),
                                     open_names(store, bag, several, one.use, day, *rule), seed)


class Shutting(unittest.TestCase):

    def test_a_set_shuts_if_each_path_has_a_paper_of_it(self):
        shutting = []
        for seed, source, store, bag, asked in small(600, 70):
            questions = [asked, asked.about(source.choice(bag.papers()).holder)]
            paths = [path for one in questions for path in held(store, bag, one, 6)]
            if not paths:
                continue
            units = sorted({unit(one) for one in bag.papers()})
            for many in range(len(units) + 1):
                for chosen in itertools.combinations(units, many):
                    rest = bag.without(list(chosen))
                    shuts = not any(search(store, rest, one)[0] == "open" for one in questions)
                    shutting.append(shuts)
                    self.assertEqual(shuts, all(any(unit(one) in chosen for one in path)
                                                for path in paths), seed)
        self.assertGreater(shutting.count(True), 100)
        self.assertGreater(shutting.count(False), 100)

    def test_the_fewest_units_against_all_small_sets(self):
        sizes = []
        for seed, source, store, bag, asked in small(800, 100, 8):
            questions = [asked.about(holder) for holder in sorted({one.holder for one in bag.papers()})]
            paths = [path for one in questions for path in held(store, bag, one, 6)]
            spared = [unit(one) for one in bag.papers()[:source.choice([0, 0, 1])]]
            free = sorted({unit(one) for one in bag.papers()} - set(spared))
            hitting = [list(chosen) for many in range(len(free) + 1)
                       for chosen in itertools.combinations(free, many)
                       if all(any(unit(one) in chosen for one in path) for path in paths)]
            told = shut(store, bag, questions, spared=spared)
            if not hitting:
                self.assertEqual(told[0], "never", seed)
                self.assertIs(is_shown(store, bag, questions, None, told[1], spared=spared), True)
                continue
            sizes.append(len(told[1]))
            self.assertIn(told[1], hitting, seed)
            self.assertEqual(len(told[1]), len(hitting[0]), seed)
            self.assertIs(is_shown(store, bag, questions, len(hitting[0]), told[2], spared=spared), True)
            self.assertIs(is_shown(store, bag, questions, len(hitting[0]) + 1, told[2], spared=spared),
                          False)
        self.assertGreater(sizes.count(1), 10)
        self.assertGreater(len([size for size in sizes if size > 1]), 3)


class Opening(unittest.TestCase):

    def test_anchors_never_work_together(self):
        found = []
        for seed, source, store, bag, asked in small(1000, 120):
            wider = store | Store([worlds.anchor(source, 0.8) for _ in range(3)])
            alone = [is_open(Store([one]), bag, asked) for one in wider.anchors()]
            self.assertEqual(search(wider, bag, asked)[0] == "open", any(alone), seed)
            self.assertEqual([opening(bag, one, [asked]) == [0] for one in wider.anchors()], alone)
            self.assertEqual(distrusted(wider, bag, [asked]),
                             [one for one, opens_it in zip(wider.anchors(), alone) if opens_it])
            found.append(any(alone))
        self.assertGreater(found.count(True), 30)

    def test_the_fewest_anchors_against_all_small_sets(self):
        sizes = []
        for seed, source, store, bag, asked in small(1200, 200):
            pool = Store([worlds.Anchor(source.choice(bag.papers()).issuer, worlds.limits(source, 0.9))
                          for _ in range(5)]).anchors()
            questions = [asked.about(one.holder) for one in bag.papers()[:3]]
            barred = [asked.about(one.holder) for one in bag.papers()[3:4]]
            opens_at = {one.row(): [at for at, question in enumerate([*questions, *barred])
                                    if is_open(Store([one]), bag, question)] for one in pool}
            right = []
            for many in range(len(pool) + 1):
                for chosen in itertools.combinations(pool, many):
                    found = {at for one in chosen for at in opens_at[one.row()]}
                    if found >= set(range(len(questions))) and not (barred and len(questions) in found):
                        right.append(list(chosen))
            told = add(Store(), bag, questions, pool, barred=barred)
            self.assertEqual(told[0], "add" if right else "never", seed)
            if right:
                sizes.append(len(told[1]))
                self.assertIn(told[1], right, seed)
                self.assertEqual(len(told[1]), len(right[0]), seed)
        self.assertGreater(sizes.count(1), 4)
        self.assertGreater(len([size for size in sizes if size > 1]), 4)


class OneMore(unittest.TestCase):

    def test_what_further_papers_of_some_keepers_can_open(self):
        found = 0
        for seed, source, store, bag, asked in small(1400, 250, 4):
            if is_open(store, bag, asked):
                continue
            keepers = source.sample(worlds.HOLDERS, 2)
            papers = [Paper(source.choice(keepers), 60 + at, source.choice([*worlds.HOLDERS, asked.holder]),
                            worlds.limits(source, 0.9)) for at in range(3)]
            extra = [paper_for(store, bag, keeper, asked) for keeper in keepers]
            for one in extra:
                if one is not None:
                    self.assertTrue(is_open(store, bag | Bag([one]), asked), seed)
            if is_open(store, bag | Bag(papers), asked):
                found += 1
                self.assertTrue(any(one is not None for one in extra), seed)
        self.assertGreater(found, 8)


class Pledges(unittest.TestCase):

    def test_one_paper_of_each_to_each_holder_that_matters(self):
        found = []
        for seed, source, store, bag, asked in small(1700, 120, 4):
            several = [Pledge(source.choice(worlds.HOLDERS),
                              source.choice([source.choice(worlds.HOLDERS), Region.under(())]),
                              worlds.limits(source, 0.85)) for _ in range(2)]
            word = opens(store, bag, several, asked)[0]
            found.append(word)
            # Two papers of each pledge to each holder open no more than one.
            twice = [Paper(one.issuer, one.serial + 1000, one.holder, one.limits)
                     for one in issued(bag, several, asked.holder)]
            wider = bag | Bag([*issued(bag, several, asked.holder), *twice])
            self.assertEqual(search(store, wider, asked)[0], word, seed)
            papers = []
            for at in range(3):
                one = source.choice(several)
                to = one.to if one.to.__class__ is tuple else source.choice(worlds.HOLDERS)
                papers.append(Paper(one.issuer, 70 + at, to, one.limits))
            if is_open(store, bag | Bag(papers), asked):
                self.assertEqual(word, "open", seed)
        self.assertGreater(found.count("open"), 30)
        self.assertGreater(found.count("shut"), 30)


class Names(unittest.TestCase):

    def worlds(self, first, many, ordered):
        """Drawn worlds with more in them, as they are and with other names."""
        for seed, source, store, bag, asked in small(first, many, 7):
            words = Words(seed, ordered)
            questions = [asked, asked.about(source.choice(bag.papers()).holder)]
            pool = [worlds.anchor(source, 0.8) for _ in range(3)]
            several = [Pledge(source.choice(worlds.HOLDERS), source.choice(
                [source.choice(worlds.HOLDERS), worlds.region(source, 0) or Region()]),
                worlds.limits(source, 0.8)) for _ in range(2)]
            yield (seed, words, (store, bag, questions, pool, several), (
                words.store(store), words.bag(bag), [words.question(one) for one in questions],
                [words.anchor(one) for one in pool], [self.pledge(words, one) for one in several]))

    def pledge(self, words, one):
        to = words.holder(one.to) if one.to.__class__ is tuple else words.region(one.to)
        return Pledge(words.holder(one.issuer), to, words.limits(one.limits))

    def rows(self, words, rows):
        return [([(words.holder(issuer), serial) for issuer, serial in units], at, words.path(path))
                for units, at, path in rows]

    def test_other_names_in_the_same_order(self):
        for seed, words, (store, bag, questions, pool, several), other in self.worlds(1900, 50, True):
            told, again = shut(store, bag, questions), shut(*other[:3])
            self.assertEqual(again[0], told[0], seed)
            self.assertEqual(again[-1], self.rows(words, told[-1]), seed)
            self.assertEqual(again[1:-1], tuple([(words.holder(one), serial) for one, serial in units]
                                                for units in told[1:-1]))
            told, again = add(Store(), bag, questions, pool), add(Store(), *other[1:4])
            self.assertEqual(again[0], told[0], seed)
            if told[0] == "add":
                self.assertEqual(again[1], [words.anchor(one) for one in told[1]], seed)
                self.assertEqual(again[2], [([words.anchor(one) for one in some], at)
                                            for some, at in told[2]], seed)
            else:
                self.assertEqual(again, told)
            keeper, asked = questions[0].holder, questions[0]
            rows = atlas(store, bag, keeper, asked.rules, asked.strict)
            self.assertEqual(atlas(*other[:2], words.holder(keeper), other[2][0].rules, asked.strict), [
                (words.words["use"].get(use, use), first, last, words.region(Region(some)).rows())
                for use, first, last, some in rows], seed)

    def test_other_names_in_another_order(self):
        for seed, words, (store, bag, questions, pool, several), other in self.worlds(2000, 50, False):
            told, again = shut(store, bag, questions), shut(*other[:3])
            self.assertEqual((again[0], len(again), len(again[1])), (told[0], len(told), len(told[1])))
            told, again = add(Store(), bag, questions, pool), add(Store(), *other[1:4])
            self.assertEqual(again[0], told[0], seed)
            self.assertEqual(*[len(one[1]) if one[0] == "add" else one[1] for one in (told, again)])
            self.assertEqual(sorted(one.row() for one in distrusted(other[0], *other[1:3])),
                             sorted(words.anchor(one).row() for one in distrusted(store, bag, questions)))
            asked, there = questions[0], other[2][0]
            self.assertEqual(opens(*other[:2], other[4], there)[0], opens(store, bag, several, asked)[0])
            self.assertEqual(open_names(*other[:2], other[4], there.use, there.day, there.rules,
                                        there.strict),
                             words.region(open_names(store, bag, several, asked.use, asked.day,
                                                     asked.rules, asked.strict)), seed)
            for holder in worlds.HOLDERS:
                self.assertEqual(opened(*other[:2], words.holder(holder), there.use, there.day,
                                        there.rules, there.strict),
                                 words.region(opened(store, bag, holder, asked.use, asked.day,
                                                     asked.rules, asked.strict)), seed)

    def test_papers_in_no_path_that_is_led_from_a_start(self):
        lost = (("lost",), "l")
        for seed, source, store, bag, asked in small(2100, 60, 7):
            wider = bag | Bag([Paper(lost, 1, asked.holder, Limits(0, 12, steps=8, pairs=[("x", "y")])),
                               Paper(lost, 2, worlds.HOLDERS[0], Limits(0, 12, steps=8))])
            pool = [worlds.anchor(source, 0.8) for _ in range(3)]
            self.assertEqual(shut(store, wider, [asked]), shut(store, bag, [asked]), seed)
            self.assertEqual(add(store, wider, [asked], pool), add(store, bag, [asked], pool), seed)
            self.assertEqual(distrusted(store, wider, [asked]), distrusted(store, bag, [asked]))
            self.assertEqual(atlas(store, wider, asked.holder), atlas(store, bag, asked.holder))
            several = [Pledge(asked.holder, Region.under(()), Limits(0, 12, steps=3))]
            self.assertEqual(open_names(store, wider, several, asked.use, asked.day),
                             open_names(store, bag, several, asked.use, asked.day), seed)

    def test_there_may_be_more_states_and_so_too_many(self):
        root, end = (("root",), "r"), (("end",), "e")
        store = Store([worlds.Anchor(root, Limits(0, 9, steps=8))])
        lost = Paper((("lost",), "l"), 1, root, Limits(0, 9, pairs=[("x", "y")]))
        asked = Question(end, "web", 5)
        self.assertEqual([len(table(store, one, asked)) for one in (Bag(), Bag([lost]))], [2, 4])
        self.assertEqual(opened(store, Bag(), root, "web", 5, limit=2), Region.under(()))
        with self.assertRaises(ValueError):
            opened(store, Bag([lost]), root, "web", 5, limit=3)


if __name__ == "__main__":
    unittest.main()
