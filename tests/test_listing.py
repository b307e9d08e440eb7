"""Point 62: all paths that hold, one after another."""

import inspect
import itertools
import unittest

from vouchchains.bags import Bag, Question, Store
from vouchchains.judging import holds
from vouchchains.limits import Limits
from vouchchains.listing import paths
from vouchchains.papers import Anchor, Notice, Paper
from vouchchains.regions import Region
from vouchchains.searching import search
from kinds import shuffled
import plain
import worlds

ROOT, MID, END = (("root",), "r"), (("mid",), "m"), (("mid", "web"), "w")


def paper(issuer, holder, serial=1, **more):
    return Paper(issuer, serial, holder, Limits(0, 99, **{"steps": 8, **more}))


def store(**more):
    return Store([Anchor(ROOT, Limits(0, 99, **{"steps": 8, **more}))])


def ask(holder=END, **more):
    return Question(holder, "web", 30, **more)


class Lists(unittest.TestCase):

    def test_a_generator_of_lists(self):
        made = paths(store(), Bag([paper(ROOT, END)]), ask(), 8)
        self.assertTrue(inspect.isgenerator(made))
        self.assertTrue(inspect.isgeneratorfunction(paths))
        found = list(made)
        self.assertEqual(found, [[paper(ROOT, END)]])
        self.assertIs(found[0].__class__, list)

    def test_none_of_no_papers(self):
        self.assertEqual(list(paths(store(), Bag([paper(ROOT, END)]), ask(), 0)), [])
        self.assertEqual(list(paths(store(), Bag(), ask(), 8)), [])
        self.assertEqual(list(paths(Store(), Bag([paper(ROOT, END)]), ask(), 8)), [])
        self.assertEqual(list(paths(store(), Bag([paper(ROOT, END)]), ask(ROOT), 8)), [])

    def test_each_most(self):
        ring = paper(ROOT, ROOT)
        for most in range(9):
            found = list(paths(store(), Bag([ring]), ask(ROOT), most))
            self.assertEqual(found, [[ring] * many for many in range(1, most + 1)])
        for steps in range(9):
            found = list(paths(store(steps=steps), Bag([ring]), ask(ROOT), 8))
            self.assertEqual(len(found), steps)

    def test_a_ring_on_the_way(self):
        ring, leave = paper(MID, MID), paper(MID, END)
        bag = Bag([paper(ROOT, MID), ring, leave])
        for most in range(9):
            found = list(paths(store(), bag, ask(), most))
            self.assertEqual(found, [[paper(ROOT, MID), *[ring] * many, leave]
                                     for many in range(most - 1)])

    def test_fewer_first_then_in_the_order_of_the_lists(self):
        rings = [paper(ROOT, ROOT, serial) for serial in (1, 2)]
        ends = [paper(ROOT, END, serial) for serial in (0, 3)]
        wanted = [[*turns, end] for many in range(4)
                  for turns in itertools.product(rings, repeat=many) for end in ends]
        self.assertEqual(list(paths(store(), Bag(rings + ends), ask(), 4)), wanted)
        for number in range(4):
            bag = Bag(shuffled(rings + ends + rings, number))
            self.assertEqual(list(paths(store(), bag, ask(), 4)), wanted)

    def test_all_eight_places_of_two_papers(self):
        rings = [paper(ROOT, ROOT, serial) for serial in (1, 2)]
        found = list(paths(store(), Bag(rings), ask(ROOT), 8))
        self.assertEqual(len(found), sum(2 ** many for many in range(1, 9)))
        self.assertEqual(found[-1], [rings[1]] * 8)

    def test_each_path_once_whatever_the_anchors_and_rules(self):
        anchors = [Anchor(ROOT, Limits(0, 99, steps=steps)) for steps in (3, 5, 8)]
        bag = Bag([paper(ROOT, MID, pairs=[("a", "a"), ("a", "b")]), paper(MID, END)])
        self.assertEqual(len(list(paths(Store(anchors), bag, ask(), 8))), 1)
        self.assertEqual(len(list(paths(Store(anchors), bag, ask(rules=["a", "b", "c"]), 8))), 1)

    def test_paths_that_a_search_leaves_out(self):
        no_end = Region.of([()], [END[0]])
        papers = [paper(ROOT, END, 5), paper(ROOT, MID, 1), paper(ROOT, MID, 2, region=no_end),
                  paper(MID, END, 1), paper(MID, END, 2)]
        self.assertEqual(list(paths(store(), Bag(papers), ask(), 8)),
                         [[papers[0]], [papers[1], papers[3]], [papers[1], papers[4]]])

    def test_rules_that_turn_on_the_way(self):
        ring = paper(ROOT, ROOT, 1, any_rule=False, pairs=[("a", "b"), ("b", "a")])
        leave = paper(ROOT, END, 2, any_rule=False, pairs=[("b", "b")])
        found = list(paths(store(), Bag([ring, leave]), ask(rules=["a"]), 8))
        self.assertEqual([len(path) for path in found], [2, 4, 6, 8])

    def test_strict(self):
        papers, notices = [paper(ROOT, MID), paper(MID, END)], [Notice(ROOT, 0, 99)]
        bag = Bag([*papers, paper(ROOT, END, 9)], notices)
        self.assertEqual(len(list(paths(store(), bag, ask(), 8))), 2)
        self.assertEqual(list(paths(store(), bag, ask(strict=True), 8)), [[paper(ROOT, END, 9)]])


class Leaving(unittest.TestCase):

    BAG = Bag([paper(ROOT, ROOT, serial) for serial in range(40)])

    def test_left_early(self):
        made = paths(store(), self.BAG, ask(ROOT), 8)
        found = [next(made) for _ in range(50)]
        self.assertEqual(found[:40], [[one] for one in self.BAG.papers()])
        self.assertEqual([len(path) for path in found[40:]], [2] * 10)
        made.close()
        self.assertEqual(next(paths(store(), self.BAG, ask(ROOT), 8)), found[0])

    def test_asked_again(self):
        bag = Bag(self.BAG.papers()[:3])
        once = [list(path) for path in paths(store(), bag, ask(ROOT), 3)]
        one, other = paths(store(), bag, ask(ROOT), 3), paths(store(), bag, ask(ROOT), 3)
        for wanted in once:
            told = next(one)
            self.assertEqual(told, wanted)
            told.clear()
            self.assertEqual(next(other), wanted)
        self.assertEqual((list(one), list(other)), ([], []))

    def test_new_lists(self):
        found = list(paths(store(), Bag(self.BAG.papers()[:3]), ask(ROOT), 3))
        self.assertEqual(len({id(path) for path in found}), len(found))

    def test_lists_that_are_handed_in_and_changed(self):
        papers = self.BAG.papers()[:2]
        bag = Bag(papers)
        made = paths(store(), bag, ask(ROOT), 2)
        next(made)
        papers.clear()
        bag.papers().clear()
        self.assertEqual(len(list(made)), 5)


class Drawn(unittest.TestCase):

    def test_against_plain_following_of_all_paths(self):
        many = 0
        for seed, store_, bag, asked in worlds.worlds(2600, 150):
            for holder in worlds.HOLDERS:
                question = asked.about(holder)
                wanted = plain.paths(store_, bag, question, 4)
                for most in range(5):
                    found = list(paths(store_, bag, question, most))
                    self.assertEqual(found, [path for path in wanted if len(path) <= most], seed)
                many += len(wanted)
        self.assertGreater(many, 300)

    def test_up_to_eight_papers(self):
        lengths = set()
        for seed, store_, bag, asked in worlds.worlds(2800, 60, 6):
            for holder in worlds.HOLDERS:
                question = asked.about(holder)
                found = list(itertools.islice(paths(store_, bag, question, 8), 200))
                for path in found:
                    self.assertIs(plain.holds(store_, bag, question, path), True, seed)
                    self.assertIs(holds(store_, bag, question, path), True, seed)
                rows = [(len(path), [one.row() for one in path]) for path in found]
                self.assertEqual(rows, sorted(rows))
                self.assertTrue(all(one != other for one, other in zip(rows, rows[1:])))
                if len(found) < 200 and len(bag) < 4:
                    self.assertEqual(found, plain.paths(store_, bag, question, 8), seed)
                lengths.update(len(path) for path in found)
        self.assertEqual(lengths, set(range(1, 9)))

    def test_the_first_is_what_search_returns(self):
        for seed, store_, bag, asked in worlds.worlds(2900, 200):
            word, told = search(store_, bag, asked)
            first = next(paths(store_, bag, asked, 8), None)
            self.assertEqual(first, told if word == "open" else None, seed)


if __name__ == "__main__":
    unittest.main()
