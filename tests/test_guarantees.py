"""Guarantees 6, 7, 8, 9, 10 and 16 in small drawn worlds."""

import itertools
import unittest

from vouchchains.bags import Bag, Question, Store
from vouchchains.days import Days
from vouchchains.judging import common, holds, judged
from vouchchains.known import Archive
from vouchchains.limits import Limits
from vouchchains.listing import paths
from vouchchains.papers import Anchor, Notice, Paper
from vouchchains.pieces import Piece
from vouchchains.regions import Region
from vouchchains.renewals import with_paper
from vouchchains.searching import is_table, search, table
from vouchchains.spans import breaks, open_days, open_parts
from vouchchains.states import starts, step
from kinds import drawing, shuffled
from renaming import PARTS, Words, limits_with
import plain
import worlds


def is_open(store, bag, question):
    return search(store, bag, question, limit=4000)[0] == "open"


def asking(first, many, most_papers=9):
    """Drawn worlds, each with questions for all holders that papers bind."""
    return [(seed, store, bag, asked.about(holder))
            for seed, store, bag, asked in worlds.worlds(first, many, most_papers)
            for holder in sorted({paper.holder for paper in bag.papers()})]


def greater(source, limits):
    """The Limits with one part that is more, or as much."""
    counts = {name: None if getattr(limits, name) is None or getattr(limits, name) == 8
              else getattr(limits, name) + 1 for name in PARTS[7:]}
    more = {"first": max(0, limits.first - 3), "last": limits.last + 3,
            "steps": min(8, limits.steps + 1),
            "region": limits.region | Region.under(source.choice(worlds.NAMES)),
            "uses": None if limits.uses is None else [*limits.uses, source.choice(worlds.USES)],
            "pairs": [*limits.pairs, (source.choice(worlds.RULES), source.choice(worlds.RULES))],
            "any_rule": True, **counts}
    name = source.choice(PARTS)
    return limits_with(limits, **{name: more[name]})


class Cutting(unittest.TestCase):

    def cuts(self, path):
        """All ways to cut a path into pieces."""
        for marks in itertools.product([False, True], repeat=len(path) - 1):
            pieces, begun = [], [path[0]]
            for paper, cut in zip(path[1:], marks):
                if cut:
                    pieces.append(begun)
                    begun = []
                begun.append(paper)
            yield [*pieces, begun]

    def test_a_path_cut_in_every_way(self):
        held = 0
        for seed, store, bag, asked in worlds.worlds(6000, 50, 12):
            source = drawing(seed)
            lines = [line for many in (2, 3, 4) for line in plain.lines(bag, many)]
            lines = source.sample(lines, min(4, len(lines)))
            for holder in worlds.HOLDERS:
                lines.extend(list(paths(store, bag, asked.about(holder), 4))[-1:])
            for path in lines:
                question = Question(path[-1].holder, asked.use, asked.day, asked.rules)
                whole = Piece(path)
                answers = [whole.fits(anchor, question) for anchor in store.anchors()]
                held += any(answers)
                for pieces in self.cuts(path):
                    joined = Piece(pieces[0])
                    for papers in pieces[1:]:
                        joined = joined + Piece(papers)
                    self.assertEqual(joined, whole, seed)
                    self.assertEqual([joined.fits(anchor, question) for anchor in store.anchors()],
                                     answers, seed)
        self.assertGreater(held, 30)

    def test_days_regions_and_uses_in_any_order(self):
        for seed, store, bag, asked in worlds.worlds(6100, 60):
            told = common(bag.papers())[:3]
            for number in range(3):
                self.assertEqual(common(shuffled(bag.papers(), number))[:3], told, seed)

    def test_the_states_behind_a_path_have_what_all_have_in_common(self):
        led = 0
        for seed, store, bag, asked in worlds.worlds(6200, 120):
            for anchor in store.anchors():
                for path in [line for many in (1, 2, 3) for line in plain.lines(bag, many)][:40]:
                    states = starts(Store([anchor]), bag, asked)
                    for paper in path:
                        told = [step(one, paper, bag, asked) for one in states]
                        states = [one for word, several in told if word == "on" for one in several]
                    days, region, uses, most = common(path)
                    for one in states:
                        led += 1
                        self.assertEqual(one.region, region & anchor.limits.region)
                        self.assertIn(asked.day, days)
                        self.assertTrue(uses is None or asked.use in uses)
                        self.assertEqual(one.left, min(most, anchor.limits.steps) - len(path))
        self.assertGreater(led, 100)


class MoreAndLess(unittest.TestCase):

    def test_a_state_above_another_one_can_do_whatever_the_other_one_can(self):
        compared = 0
        for seed, store, bag, asked in worlds.worlds(6300, 220, 12):
            reached = [one for layer in plain.layers(store, bag, asked) for one in layer]
            behind = [state for _, state in plain.behind(reached, bag, asked)]
            states = plain.ascending([*reached, *behind])
            for one, other in itertools.permutations(states, 2):
                if not one.below(other):
                    continue
                for paper in bag.papers():
                    word, told = step(one, paper, bag, asked)
                    if word == "on":
                        compared += 1
                        above, more = step(other, paper, bag, asked)
                        self.assertEqual(above, "on", seed)
                        self.assertTrue(all(any(less.below(great) for great in more)
                                            for less in told), seed)
        self.assertGreater(compared, 100)

    def check_more(self, store, bag, wider, broader, question, seed):
        """Check that what is open, and each path that holds, stays so; tell what is opened."""
        held = list(paths(store, bag, question, 3))
        for path in held:
            self.assertIs(holds(wider, broader, question, path), True, seed)
        if is_open(store, bag, question):
            self.assertIs(is_open(wider, broader, question), True, seed)
            return False
        return is_open(wider, broader, question)

    def test_a_paper_or_an_anchor_more_shuts_nothing(self):
        opened = 0
        for seed, store, bag, asked in asking(6400, 40):
            source = drawing(seed)
            for _ in range(3):
                paper, anchor = worlds.paper(source, 0.8), worlds.anchor(source, 0.8)
                opened += self.check_more(store, bag, store, bag | Bag([paper]), asked, seed)
                opened += self.check_more(store, bag, store | Store([anchor]), bag, asked, seed)
        self.assertGreater(opened, 10)

    def test_greater_limits_shut_nothing(self):
        opened = 0
        for seed, store, bag, asked in asking(6500, 60):
            source = drawing(seed)
            for _ in range(3):
                old = source.choice(bag.papers())
                limits = greater(source, greater(source, greater(source, old.limits)))
                self.assertIs(old.limits.within(limits), True)
                papers = [one for one in bag.papers() if one != old]
                wider = Bag([*papers, Paper(old.issuer, old.serial, old.holder, limits)],
                            bag.notices())
                opened += is_open(store, wider, asked) and not is_open(store, bag, asked)
                self.assertLessEqual(is_open(store, bag, asked), is_open(store, wider, asked), seed)
                old = source.choice(store.anchors())
                limits = greater(source, greater(source, greater(source, old.limits)))
                opened += self.check_more(
                    store, bag, store.without(old) | Store([Anchor(old.holder, limits)]), bag,
                    asked, seed)
        self.assertGreater(opened, 5)

    def test_an_entry_more_opens_nothing(self):
        shut = 0
        for seed, store, bag, asked in asking(6600, 40):
            source = drawing(seed)
            for notice in bag.notices():
                entries = [*notice.entries, (source.randint(1, 3), source.randint(0, 6))]
                others = [one for one in bag.notices() if one != notice]
                fewer = Bag(bag.papers(), [*others, Notice(notice.issuer, notice.day, notice.last,
                                                           entries)])
                shut += self.check_more(store, fewer, store, bag, asked, seed)
        self.assertGreater(shut, 3)

    def test_a_notice_without_entries_shuts_nothing(self):
        opened = 0
        for seed, store, bag, asked in asking(6700, 60):
            source = drawing(seed)
            issuer = source.choice(worlds.HOLDERS)
            first = source.randint(0, 9)
            notice = Notice(issuer, first, source.randint(0, 12))
            strict = Question(asked.holder, asked.use, asked.day, asked.rules, True)
            for question in (asked, strict):
                opened += self.check_more(store, bag, store, bag | Bag([], [notice]), question,
                                          seed)
        self.assertGreater(opened, 3)


class PathOrTable(unittest.TestCase):

    def test_each_question_has_one_of_them(self):
        answers = {"open": 0, "shut": 0}
        for seed, store, bag, asked in asking(6800, 60):
            word, told = search(store, bag, asked, limit=4000)
            answers[word] += 1
            shown = is_table(store, bag, asked, table(store, bag, asked, limit=4000))
            self.assertEqual(shown, word == "shut", seed)
            held = plain.paths(store, bag, asked, 3)
            if word == "open":
                self.assertIs(holds(store, bag, asked, told), True, seed)
                self.assertIs(plain.holds(store, bag, asked, told), True, seed)
            else:
                self.assertIs(is_table(store, bag, asked, told), True, seed)
                self.assertEqual(held, [], seed)
        self.assertGreater(min(answers.values()), 30)


class DaysAndArrivals(unittest.TestCase):

    def test_answers_change_only_next_to_days_that_are_named(self):
        turns = 0
        for seed, store, bag, asked in asking(6900, 40):
            named = breaks(store, bag)
            told = [is_open(store, bag, asked.on(day)) for day in range(22)]
            for day in range(1, 22):
                if told[day] != told[day - 1]:
                    turns += 1
                    self.assertIn(day, named, seed)
        self.assertGreater(turns, 15)

    def test_then_and_now(self):
        for seed, store, bag, asked in asking(7000, 30):
            source = drawing(seed)
            items = [(source.randint(0, paper.limits.first), paper) for paper in bag.papers()]
            items += [(source.randint(0, 14), notice) for notice in bag.notices()]
            archive = Archive(items)
            question = Question(asked.holder, asked.use, asked.day, asked.rules)
            self.assertEqual(archive.late(), [])
            self.assertEqual(archive.turned(store, question)[1], Days(), seed)
            for day in range(14):
                self.assertLessEqual(archive.now(store, question.on(day)),
                                     archive.then(store, question.on(day)), seed)


class Names(unittest.TestCase):

    def renamed(self, first, many, ordered):
        """Drawn worlds as they are and with other names."""
        for seed, store, bag, asked in asking(first, many):
            words = Words(seed, ordered)
            yield (seed, words, (store, bag, asked),
                   (words.store(store), words.bag(bag), words.question(asked)))

    def test_other_names_in_the_same_order(self):
        found = 0
        for seed, words, world, other in self.renamed(7100, 40, True):
            word, told = search(*world)
            if word == "open":
                found += 1
                self.assertEqual(search(*other), ("open", words.path(told)), seed)
            else:
                self.assertEqual(search(*other),
                                 ("shut", [words.state(state) for state in told]), seed)
            self.assertEqual(table(*other), [words.state(one) for one in table(*world)], seed)
            self.assertEqual(list(paths(*other, 3)), [words.path(one) for one in paths(*world, 3)])
            self.assertEqual(open_parts(*other), [(first, last, words.path(path))
                                                  for first, last, path in open_parts(*world)])
            path = world[1].papers()[:1]
            self.assertEqual(judged(*other, words.path(path)), [
                (words.anchor(anchor), place, why)
                for anchor, place, why in judged(*world, path)])
        self.assertGreater(found, 15)

    def test_other_names_in_another_order(self):
        found = 0
        for seed, words, world, other in self.renamed(7200, 40, False):
            word, told = search(*world)
            again, there = search(*other)
            self.assertEqual(word, again, seed)
            if word == "open":
                found += 1
                self.assertEqual(len(told), len(there), seed)
                self.assertIs(holds(*other, words.path(told)), True)
            self.assertEqual(plain.ascending(table(*other)),
                             plain.ascending([words.state(one) for one in table(*world)]), seed)
            rows = [[paper.row() for paper in path] for path in paths(*other, 3)]
            wanted = [[paper.row() for paper in words.path(path)] for path in paths(*world, 3)]
            self.assertEqual(sorted(rows), sorted(wanted), seed)
            self.assertEqual(open_days(*other), open_days(*world), seed)
            self.assertEqual(breaks(*other[:2]), breaks(*world[:2]))
            items = [(3, thing) for thing in world[1].papers()]
            renamed = [(3, words.paper(thing)) for _, thing in items]
            self.assertEqual(Archive(renamed).turned(other[0], other[2]),
                             Archive(items).turned(world[0], world[2]), seed)
        self.assertGreater(found, 15)

    def test_the_days_of_a_renewed_path(self):
        for seed, words, world, other in self.renamed(7300, 20, False):
            path = world[1].papers()[:1]
            renewed = path[0].renewed(3, 2, 9)
            asked = world[2].about(renewed.holder)
            told = with_paper(world[0], world[1], asked, path, 0, renewed)
            self.assertEqual(with_paper(other[0], other[1], words.question(asked), words.path(path),
                                        0, words.paper(renewed)), told, seed)

    def test_papers_in_no_path_that_is_led_from_a_start(self):
        # Their issuer is bound by themselves alone; their rules are new.
        lost = (("lost",), "l")
        for seed, store, bag, asked in asking(7400, 50):
            papers = [Paper(lost, 1, asked.holder, Limits(0, 12, steps=8, pairs=[("x", "y")])),
                      Paper(lost, 2, lost, Limits(0, 12, steps=8, pairs=[("d", "x")])),
                      Paper(lost, 3, worlds.HOLDERS[0], Limits(0, 12, steps=8))]
            wider = bag | Bag(papers)
            word, told = search(store, bag, asked)
            again, there = search(store, wider, asked)
            self.assertEqual(word, again, seed)
            if word == "open":
                self.assertEqual(there, told, seed)
            self.assertEqual(list(paths(store, wider, asked, 3)), list(paths(store, bag, asked, 3)))
            self.assertEqual(open_parts(store, wider, asked), open_parts(store, bag, asked), seed)
            self.assertLessEqual(len(table(store, bag, asked)), len(table(store, wider, asked)))

    def test_there_may_be_more_states_and_so_too_many(self):
        root = (("root",), "r")
        store = Store([Anchor(root, Limits(0, 9, steps=8))])
        lost = Paper((("lost",), "l"), 1, root, Limits(0, 9, pairs=[("x", "y")]))
        asked = Question((("end",), "e"), "web", 5)
        self.assertEqual(len(table(store, Bag(), asked)), 2)
        self.assertEqual(len(table(store, Bag([lost]), asked)), 4)


if __name__ == "__main__":
    unittest.main()
