"""Points 80 and 81: the fewest units that shut questions, and rows that show it."""

import itertools
import unittest

from vouchchains.bags import Bag, Question, Store
from vouchchains.errors import TooMany
from vouchchains.fewest import is_shown, shut
from vouchchains.judging import holds
from vouchchains.papers import Notice
from vouchchains.searching import search
from kinds import EVERY_KIND, deep, drawing, shuffled
from makes import END, LOW, MID, ROOT, anchor, ask, fan, paper, raised, store
import worlds

FIRST, LAST = paper(ROOT, MID), paper(MID, END)
LINE = Bag([FIRST, LAST])
OTHER = (("other",), "o")


def unit(one):
    return (one.issuer, one.serial)


def is_open(stores, bag, question, limit=4000):
    return search(stores, bag, question, limit=limit)[0] == "open"


def plain_row(stores, bag, units, questions, kept, limit):
    """The row of a set by the words of the document, or None."""
    rest = bag.without(units)
    for at, question in enumerate(kept):
        if search(stores, rest, question, limit=limit)[0] == "shut":
            return (units, at, None)
    for at, question in enumerate(questions):
        word, path = search(stores, rest, question, limit=limit)
        if word == "open":
            return (units, at, path)
    return None


def plain_shut(stores, bag, questions, spared=(), kept=(), limit=400):
    """What shut returns, by the words of the document."""
    level, rows, many = [[]], [], 0
    while level:
        many += len(level)
        if many > limit:
            raise TooMany(limit)
        told = [(units, plain_row(stores, bag, units, questions, kept, limit)) for units in level]
        for units, row in told:
            if row is None:
                return ("shut", units, rows)
        rows = rows + [row for _, row in told]
        following = []
        for units, (_, _, path) in told:
            for one in path or []:
                wider = sorted({*units, unit(one)})
                if unit(one) not in spared and wider not in following:
                    following.append(wider)
        level = sorted(following)
    return ("never", rows)


def sets_of(bag, spared, many):
    """All ascending lists of so many units of a bag that are not spared."""
    units = sorted({unit(one) for one in bag.papers()} - set(spared))
    return [list(chosen) for chosen in itertools.combinations(units, many)]


def shuts(stores, bag, units, questions, kept):
    rest = bag.without(units)
    return (not any(is_open(stores, rest, question) for question in questions)
            and all(is_open(stores, rest, question) for question in kept))


def drawn(first, many, most_papers=9):
    """Drawn worlds: (seed, store, bag, questions, spared, kept)."""
    for seed, stores, bag, asked in worlds.worlds(first, many, most_papers):
        source = drawing(seed)
        about = [asked.about(paper.holder) for paper in bag.papers()]
        about += [Question(one.holder, one.use, one.day) for one in about]
        questions = [source.choice(about) for _ in range(source.choice([0, 1, 1, 2, 2, 3]))]
        kept = [source.choice(about) for _ in range(source.choice([0, 0, 0, 1, 2]))]
        kept = [one for one in kept if is_open(stores, bag, one) or source.random() < 0.3]
        spared = [unit(source.choice(bag.papers())) for _ in range(source.choice([0, 0, 1, 2]))]
        yield (seed, stores, bag, questions, spared, kept)


class Shut(unittest.TestCase):

    def test_no_questions(self):
        self.assertEqual(shut(store(), LINE, []), ("shut", [], []))
        self.assertEqual(shut(Store(), Bag(), [], spared=[], kept=[]), ("shut", [], []))

    def test_questions_that_are_shut_from_the_start(self):
        self.assertEqual(shut(store(), LINE, [ask(LOW), ask(day=100)]), ("shut", [], []))

    def test_one_question(self):
        told = shut(store(), LINE, [ask()])
        self.assertEqual(told, ("shut", [(MID, 1)], [([], 0, [FIRST, LAST])]))
        self.assertEqual([told.__class__, told[1].__class__, told[2].__class__,
                          told[2][0].__class__, told[2][0][0].__class__, told[2][0][2].__class__],
                         [tuple, list, list, tuple, list, list])

    def test_the_first_open_question_has_the_row(self):
        told = shut(store(), LINE, [ask(LOW), ask(MID), ask()])
        self.assertEqual(told, ("shut", [(ROOT, 1)], [([], 1, [FIRST])]))
        told = shut(store(), LINE, [ask(LOW), ask(), ask(MID)])
        self.assertEqual(told, ("shut", [(ROOT, 1)], [([], 1, [FIRST, LAST])]))

    def test_several_questions_that_no_one_unit_shuts(self):
        other = paper(ROOT, OTHER, 2)
        told = shut(store(), Bag([FIRST, LAST, other]), [ask(), ask(OTHER)])
        self.assertEqual(told, ("shut", [(MID, 1), (ROOT, 2)], [
            ([], 0, [FIRST, LAST]), ([(MID, 1)], 1, [other]), ([(ROOT, 1)], 1, [other])]))

    def test_two_paths(self):
        again = paper(ROOT, MID, 2)
        told = shut(store(), Bag([FIRST, again, LAST]), [ask(MID)])
        self.assertEqual(told, ("shut", [(ROOT, 1), (ROOT, 2)], [
            ([], 0, [FIRST]), ([(ROOT, 1)], 0, [again])]))
        self.assertEqual(shut(store(), Bag([FIRST, again, LAST]), [ask()])[1], [(MID, 1)])

    def test_spared_units(self):
        told = shut(store(), LINE, [ask()], spared=[(MID, 1)])
        self.assertEqual(told, ("shut", [(ROOT, 1)], [([], 0, [FIRST, LAST])]))
        for spared in ([(MID, 1), (ROOT, 1)], ((ROOT, 1), (MID, 1), (ROOT, 1))):
            self.assertEqual(shut(store(), LINE, [ask()], spared=spared),
                             ("never", [([], 0, [FIRST, LAST])]))

    def test_spared_units_that_no_paper_has_and_questions_that_are_shut(self):
        self.assertEqual(shut(store(), LINE, [ask()], spared=[(LOW, 1), (MID, 2)])[1], [(MID, 1)])
        self.assertEqual(shut(store(), LINE, [ask(LOW)], spared=[(ROOT, 1), (MID, 1)]),
                         ("shut", [], []))

    def test_never_has_the_rows_of_all_levels(self):
        again = paper(ROOT, MID, 2)
        told = shut(store(), Bag([FIRST, again, LAST]), [ask()], spared=[(MID, 1), (ROOT, 2)])
        self.assertEqual(told, ("never", [([], 0, [FIRST, LAST]),
                                          ([(ROOT, 1)], 0, [again, LAST])]))

    def test_kept_questions_that_are_shut_from_the_start(self):
        self.assertEqual(shut(store(), LINE, [ask()], kept=[ask(MID), ask(LOW)]),
                         ("never", [([], 1, None)]))
        self.assertEqual(shut(store(), LINE, [], kept=[ask(LOW)]), ("never", [([], 0, None)]))

    def test_kept_questions_that_a_set_shuts(self):
        told = shut(store(), LINE, [ask()], kept=[ask(MID)])
        self.assertEqual(told, ("shut", [(MID, 1)], [([], 0, [FIRST, LAST])]))
        # Without kept the paper of the other keeper is the least answer.
        about = [FIRST, paper(ROOT, LOW, 2), paper(LOW, OTHER, 3), paper(MID, OTHER, 4)]
        told = shut(store(), Bag(about), [ask(MID)], kept=[ask(OTHER), ask(MID)])
        self.assertEqual(told, ("never", [([], 0, [FIRST]), ([(ROOT, 1)], 1, None)]))
        told = shut(store(), Bag(about), [ask(OTHER)], kept=[ask(LOW)])
        self.assertEqual(told[1], [(LOW, 3), (MID, 4)])
        told = shut(store(), Bag(about), [ask(OTHER)], kept=[ask(LOW)], spared=[(MID, 4)])
        self.assertEqual(told[1], [(LOW, 3), (ROOT, 1)])
        self.assertEqual(told[2], [([], 0, [about[0], about[3]]),
                                   ([(ROOT, 1)], 0, [about[1], about[2]])])

    def test_a_row_for_kept_leads_no_further(self):
        told = shut(store(), LINE, [ask(), ask(MID)], kept=[ask(MID)])
        self.assertEqual(told, ("never", [([], 0, [FIRST, LAST]), ([(MID, 1)], 1, [FIRST]),
                                          ([(ROOT, 1)], 0, None), ([(MID, 1), (ROOT, 1)], 0, None)]))

    def test_papers_of_one_unit_are_taken_back_together(self):
        twins = [paper(ROOT, MID), paper(ROOT, LOW), paper(LOW, END), paper(MID, END)]
        told = shut(store(), Bag(twins), [ask()])
        self.assertEqual(told, ("shut", [(ROOT, 1)], [([], 0, [twins[1], twins[2]])]))
        self.assertEqual(shut(store(), Bag(twins), [ask()], spared=[(ROOT, 1)])[1],
                         [(LOW, 1), (MID, 1)])

    def test_one_unit_at_two_places_of_a_path(self):
        ring = paper(ROOT, ROOT, any_rule=False, pairs=[("a", "b"), ("b", "c")])
        leave = paper(ROOT, END, 1, any_rule=False, pairs=[("c", "c")])
        self.assertEqual(shut(store(), Bag([ring, leave]), [ask(rules=["a"])]),
                         ("shut", [(ROOT, 1)], [([], 0, [ring, ring, leave])]))

    def test_a_set_of_several_rows_comes_once(self):
        papers = [paper(ROOT, END, 1), paper(ROOT, END, 2), paper(ROOT, OTHER, 3)]
        told = shut(store(), Bag(papers), [ask(), ask(OTHER)])
        self.assertEqual(told[1], [(ROOT, 1), (ROOT, 2), (ROOT, 3)])
        # Of the two questions the first one is asked first, so each set has one other set.
        self.assertEqual([row[0] for row in told[2]], [[], [(ROOT, 1)], [(ROOT, 1), (ROOT, 2)]])
        ways = [paper(ROOT, MID, 5), paper(MID, END, 5), paper(ROOT, LOW, 6), paper(LOW, END, 6)]
        told = shut(store(), Bag(ways), [ask()], spared=[])
        self.assertEqual([row[0] for row in told[2]], [[], [(MID, 5)], [(ROOT, 5)]])
        self.assertEqual(told[1], [(LOW, 6), (MID, 5)])
        three = ways + [paper(ROOT, OTHER, 7), paper(OTHER, END, 7)]
        told = shut(store(), Bag(three), [ask()])
        sets = [row[0] for row in told[2]]
        self.assertEqual(sets, sorted(sets, key=lambda units: (len(units), units)))
        self.assertEqual(len(sets), len({tuple(units) for units in sets}))
        self.assertEqual(len(sets), 1 + 2 + 4)
        self.assertEqual(len(told[1]), 3)

    def test_two_rows_that_lead_to_one_set(self):
        bag = Bag([paper(*ends, serial) for serial in (1, 2) for ends in ((ROOT, MID), (MID, END))])
        told = shut(store(anchor(any_rule=False)), bag, [ask()], limit=6)
        self.assertEqual(told[1], [(MID, 1), (MID, 2)])
        self.assertEqual([row[0] for row in told[2]], [[], [(MID, 1)], [(ROOT, 1)]])
        self.assertEqual(raised(shut, store(anchor(any_rule=False)), bag, [ask()], limit=5), 5)
        told = shut(store(), bag, [ask()], kept=[ask(MID)], spared=[(MID, 2)])
        self.assertEqual(told, ("never", [
            ([], 0, [paper(ROOT, MID), paper(MID, END)]),
            ([(MID, 1)], 0, [paper(ROOT, MID), paper(MID, END, 2)]),
            ([(ROOT, 1)], 0, [paper(ROOT, MID, 2), paper(MID, END)]),
            ([(MID, 1), (ROOT, 1)], 0, [paper(ROOT, MID, 2), paper(MID, END, 2)]),
            ([(ROOT, 1), (ROOT, 2)], 0, None),
            ([(MID, 1), (ROOT, 1), (ROOT, 2)], 0, None)]))

    def test_rows_of_no_later_level(self):
        for seed, stores, bag, questions, spared, kept in drawn(200, 60):
            told = shut(stores, bag, questions, spared=spared, kept=kept, limit=4000)
            if told[0] == "shut":
                self.assertTrue(all(len(row[0]) < len(told[1]) for row in told[2]), seed)

    def test_entries_notices_and_strict_questions(self):
        notices = [Notice(ROOT, 20, 40), Notice(MID, 20, 40)]
        bag = Bag([FIRST, LAST], notices)
        self.assertEqual(shut(store(), bag, [ask(strict=True)])[1], [(MID, 1)])
        self.assertEqual(shut(store(), bag, [ask(day=50, strict=True)]), ("shut", [], []))
        bag = Bag([FIRST, LAST], [Notice(MID, 0, 0, [(1, 30)])])
        self.assertEqual(shut(store(), bag, [ask()]), ("shut", [], []))
        self.assertEqual(shut(store(), bag, [ask(day=29)])[1], [(MID, 1)])

    def test_rules_of_papers_that_are_gone(self):
        # A paper without which nothing names the rule: the rule is still as good as any other.
        turn = paper(ROOT, LOW, 9, pairs=[("a", "b")])
        bag = Bag([FIRST, LAST, turn])
        asked = [ask(rules=None), ask(LOW)]
        self.assertEqual(shut(store(), bag, asked), plain_shut(store(), bag, asked))

    def test_drawn_worlds(self):
        words, sizes = [], []
        for seed, stores, bag, questions, spared, kept in drawn(0, 150, 14):
            told = shut(stores, bag, questions, spared=spared, kept=kept, limit=4000)
            self.assertEqual(told, plain_shut(stores, bag, questions, spared, kept, 4000), seed)
            words.append(told[0])
            sizes.append(len(told[1]) if told[0] == "shut" else 0)
        self.assertGreater(words.count("never"), 20)
        self.assertGreater(sizes.count(1), 15)
        self.assertGreater(len([size for size in sizes if size > 1]), 10)

    def test_no_fewer_units_do(self):
        tried = 0
        for seed, stores, bag, questions, spared, kept in drawn(600, 120, 7):
            told = shut(stores, bag, questions, spared=spared, kept=kept, limit=4000)
            if told[0] == "shut":
                self.assertTrue(shuts(stores, bag, told[1], questions, kept), seed)
                self.assertFalse(set(told[1]) & set(spared), seed)
                fewer = [units for many in range(len(told[1]))
                         for units in sets_of(bag, spared, many)]
            else:
                fewer = [units for many in range(8) for units in sets_of(bag, spared, many)]
            tried += len(fewer)
            for units in fewer:
                self.assertFalse(shuts(stores, bag, units, questions, kept), seed)
        self.assertGreater(tried, 400)


class TooManySets(unittest.TestCase):

    WAYS = [paper(ROOT, MID, 5), paper(MID, END, 5), paper(ROOT, LOW, 6), paper(LOW, END, 6)]
    # Here each question has but one state in each layer, so that the limit is that of the sets.
    STORE = store(anchor(any_rule=False))

    def test_as_many_and_one_more(self):
        keepers = [paper(ROOT, END, serial) for serial in range(1, 5)]
        # The levels have one set each, five together.
        self.assertEqual(shut(self.STORE, Bag(keepers), [ask()], limit=5)[0], "shut")
        self.assertEqual(raised(shut, self.STORE, Bag(keepers), [ask()], limit=4), 4)
        self.assertEqual(raised(shut, self.STORE, Bag(keepers), [ask()], limit=1), 1)

    def test_before_a_level_is_looked_at(self):
        # Levels of one, two and four sets; the layers have at most three states.
        bag = Bag([*self.WAYS])
        self.assertEqual(shut(self.STORE, bag, [ask()], limit=7)[0], "shut")
        self.assertEqual(raised(shut, self.STORE, bag, [ask()], limit=6), 6)
        self.assertEqual(raised(shut, self.STORE, bag, [ask()], limit=5), 5)

    def test_at_the_last_level(self):
        line = Bag([FIRST, LAST])
        self.assertEqual(shut(self.STORE, line, [ask()], limit=3)[0], "shut")
        self.assertEqual(raised(shut, self.STORE, line, [ask()], limit=2), 2)

    def test_the_sets_of_never(self):
        keepers = [paper(ROOT, END, serial) for serial in range(1, 5)]
        more = {"spared": [(ROOT, 4)]}
        self.assertEqual(shut(self.STORE, Bag(keepers), [ask()], limit=4, **more)[0], "never")
        self.assertEqual(raised(shut, self.STORE, Bag(keepers), [ask()], limit=3, **more), 3)

    def test_the_default_limit(self):
        # Each of six questions has a path of three papers of its own.
        papers, questions = [], []
        for at, letter in enumerate("abcdef"):
            near, far, end = ((letter,), "n"), ((letter,), "f"), ((letter,), "e")
            papers += [paper(ROOT, near, at), paper(near, far), paper(far, end)]
            questions.append(ask(end))
        self.assertEqual(raised(shut, store(), Bag(papers), questions), 400)
        self.assertEqual(shut(store(), Bag(papers), questions[:5], limit=4000)[0], "shut")
        told = shut(store(), Bag(papers), questions[:5])
        self.assertEqual(len(told[2]), 1 + 3 + 9 + 27 + 81)


class TooManyStates(unittest.TestCase):

    # Three questions with one state in layer 0, and one with many states.
    STORE = store(anchor(any_rule=False, uses=["web", "mail"]), anchor(LOW, uses=["big"]))
    BAG = Bag([FIRST, LAST, *fan(LOW, OTHER, 6)])
    BIG = ask((("far",), "f"), use="big")

    def test_of_a_question_that_is_looked_at(self):
        self.assertEqual(raised(search, self.STORE, self.BAG, self.BIG, limit=5), 5)
        self.assertEqual(raised(shut, self.STORE, self.BAG, [self.BIG], limit=5), 5)
        self.assertEqual(raised(shut, self.STORE, self.BAG, [], kept=[self.BIG], limit=5), 5)
        self.assertEqual(raised(shut, self.STORE, self.BAG, [ask(LOW), self.BIG], limit=5), 5)

    def test_of_none_that_is_behind_the_first_row(self):
        told = shut(self.STORE, self.BAG, [ask(), self.BIG], limit=5, spared=[(ROOT, 1), (MID, 1)])
        self.assertEqual(told, ("never", [([], 0, [FIRST, LAST])]))
        told = shut(self.STORE, self.BAG, [self.BIG], limit=5, kept=[ask(LOW)])
        self.assertEqual(told, ("never", [([], 0, None)]))
        told = shut(self.STORE, self.BAG, [], limit=5, kept=[ask(LOW), self.BIG])
        self.assertEqual(told, ("never", [([], 0, None)]))

    def test_kept_ones_come_first(self):
        self.assertEqual(raised(shut, self.STORE, self.BAG, [ask()], limit=5, kept=[self.BIG]), 5)
        self.assertEqual(raised(shut, self.STORE, self.BAG, [ask()], limit=5,
                                kept=[ask(MID), self.BIG], spared=[(ROOT, 1), (MID, 1)]), 5)

    def test_of_later_sets(self):
        # Only where the first question is shut is the other one looked at.
        told = shut(self.STORE, self.BAG, [ask(), self.BIG], limit=14)
        self.assertEqual(told[1], [(MID, 1)])
        self.assertEqual(raised(shut, self.STORE, self.BAG, [ask(), self.BIG], limit=13), 13)

    def test_of_a_set_behind_an_answer_of_its_level(self):
        # Without the first paper, no state lies above those of the fan.
        bag = Bag([FIRST, LAST, *fan(ROOT, MID, 6, 2)])
        self.assertEqual(shut(self.STORE, bag, [ask()])[1], [(MID, 1)])
        self.assertEqual(shut(self.STORE, bag, [ask()], limit=7)[1], [(MID, 1)])
        self.assertEqual(raised(shut, self.STORE, bag, [ask()], limit=6), 6)
        told = shut(self.STORE, bag, [ask()], limit=6, spared=[(ROOT, 1)])
        self.assertEqual(told, ("shut", [(MID, 1)], [([], 0, [FIRST, LAST])]))

    def test_no_limit_of_states_where_all_sets_are_looked_at(self):
        self.assertEqual(shut(self.STORE, self.BAG, [self.BIG], limit=400), ("shut", [], []))


class Shown(unittest.TestCase):

    AGAIN = paper(ROOT, MID, 2)
    BAG = Bag([FIRST, AGAIN, LAST])
    ROWS = [([], 0, [FIRST]), ([(ROOT, 1)], 0, [AGAIN])]

    def shown(self, number, thing, questions=(ask(MID),), **more):
        answer = is_shown(store(), self.BAG, list(questions), number, thing, **more)
        self.assertIn(answer, (True, False))
        self.assertIs(answer.__class__, bool)
        return answer

    def test_what_shut_returns(self):
        for seed, stores, bag, questions, spared, kept in drawn(1000, 120):
            told = shut(stores, bag, questions, spared=spared, kept=kept, limit=4000)
            more = {"spared": spared, "kept": kept}
            number = len(told[1]) if told[0] == "shut" else None
            self.assertIs(is_shown(stores, bag, questions, number, told[-1], **more), True, seed)
            if number is None:
                for fewer in (0, 1, 5, 10 ** 39):
                    self.assertIs(is_shown(stores, bag, questions, fewer, told[-1], **more), True)
            else:
                for more_units in (number + 1, None, 10 ** 39):
                    self.assertIs(is_shown(stores, bag, questions, more_units, told[-1], **more),
                                  False, seed)
                if number > 0:
                    self.assertIs(is_shown(stores, bag, questions, number - 1, told[-1], **more),
                                  True, seed)

    def test_numbers(self):
        self.assertEqual([self.shown(number, self.ROWS) for number in (0, 1, 2, 3, None)],
                         [True, True, True, False, False])
        self.assertEqual([self.shown(number, self.ROWS[:1]) for number in (0, 1, 2, 3, None)],
                         [True, True, False, False, False])
        self.assertEqual([self.shown(number, []) for number in (0, 1, 2, None)],
                         [True, False, False, False])

    def test_the_row_without_units_is_needed(self):
        self.assertEqual([self.shown(number, self.ROWS[1:]) for number in (0, 1, None)],
                         [True, False, False])

    def test_each_row_left_out(self):
        for seed, stores, bag, questions, spared, kept in drawn(1200, 60):
            told = shut(stores, bag, questions, spared=spared, kept=kept, limit=4000)
            number = len(told[1]) if told[0] == "shut" else None
            for at in range(len(told[-1])):
                rows = told[-1][:at] + told[-1][at + 1:]
                self.assertIs(is_shown(stores, bag, questions, number, rows, spared=spared,
                                       kept=kept), False, seed)

    def test_told_twice(self):
        self.assertIs(self.shown(2, [*self.ROWS, self.ROWS[0]]), False)
        self.assertIs(self.shown(2, [*self.ROWS, ([(ROOT, 1)], 0, [self.AGAIN])]), False)
        self.assertIs(self.shown(0, self.ROWS[:1] * 2), False)

    def test_in_another_order_and_with_more_rows(self):
        self.assertIs(self.shown(2, self.ROWS[::-1]), True)
        self.assertIs(self.shown(2, [*self.ROWS, ([(ROOT, 2)], 0, [FIRST])]), True)
        self.assertIs(self.shown(2, [*self.ROWS, ([(MID, 1), (ROOT, 2)], 0, [FIRST])]), True)
        self.assertIs(self.shown(2, [*self.ROWS, ([(ROOT, 2)], 0, [self.AGAIN])]), False)

    def test_units_that_the_bag_lacks(self):
        for wrong in ((LOW, 1), (ROOT, 3), (END, 1), (MID, 2)):
            self.assertIs(self.shown(2, [*self.ROWS, ([wrong], 0, [FIRST])]), False)

    def test_units_that_are_spared(self):
        rows = [*self.ROWS, ([(MID, 1)], 0, [FIRST])]
        self.assertIs(self.shown(2, rows), True)
        self.assertIs(self.shown(2, rows, spared=[(MID, 1)]), False)
        self.assertIs(self.shown(2, self.ROWS, spared=[(ROOT, 1)]), False)
        self.assertIs(self.shown(None, self.ROWS[:1], spared=[(ROOT, 1)]), True)
        self.assertIs(self.shown(None, self.ROWS, spared=[(ROOT, 2)]), True)

    def test_units_that_are_not_ascending_or_not_different(self):
        more = ([(MID, 1), (ROOT, 1)], 0, [self.AGAIN])
        self.assertIs(self.shown(2, [*self.ROWS, more]), True)
        for units in ([(ROOT, 1), (MID, 1)], [(MID, 1), (MID, 1), (ROOT, 1)], [(ROOT, 1)] * 2):
            self.assertIs(self.shown(2, [*self.ROWS, (units, *more[1:])]), False)

    def test_another_index(self):
        for at in (1, 2, -1, 10 ** 39, None, True, False, "0", (0,), [0]):
            self.assertIs(self.shown(1, [([], at, [FIRST])]), False)
        both = [ask(LOW), ask(MID)]
        self.assertIs(self.shown(1, [([], 1, [FIRST])], both), True)
        self.assertIs(self.shown(1, [([], 0, [FIRST])], both), False)
        self.assertIs(self.shown(1, [([], True, [FIRST])], both), False)
        self.assertIs(self.shown(1, [([], -1, [FIRST])], both), False)
        self.assertIs(self.shown(1, [([], 0, [FIRST])], []), False)

    def test_any_open_question_will_do(self):
        both = [ask(MID), ask()]
        for row in (([], 0, [FIRST]), ([], 1, [FIRST, LAST]), ([], 1, [self.AGAIN, LAST])):
            self.assertIs(self.shown(1, [row], both), True)

    def test_paths(self):
        wrong = [[], [LAST], [FIRST, FIRST], [FIRST, LAST], [paper(ROOT, MID, 3)], (FIRST,),
                 [FIRST, None], [FIRST.row()], FIRST, [[FIRST]], "", 0, False, [FIRST] * 9,
                 [FIRST] * 19000, {0: FIRST}]
        for path in wrong:
            self.assertIs(self.shown(1, [([], 0, path)]), False)
        self.assertIs(self.shown(1, [([], 0, [self.AGAIN])]), True)
        self.assertIs(self.shown(1, [([], 0, [FIRST, LAST])], [ask()]), True)

    def test_the_path_is_without_the_units(self):
        self.assertIs(self.shown(2, [self.ROWS[0], ([(ROOT, 1)], 0, [FIRST])]), False)

    def test_a_longer_path(self):
        leave = paper(ROOT, END)
        ring = paper(ROOT, ROOT, 7)
        bag = Bag([leave, ring])
        for many, answer in ((0, True), (3, True), (7, True), (8, False)):
            rows = [([], 0, [ring] * many + [leave])]
            self.assertIs(is_shown(store(), bag, [ask()], 1, rows), answer)

    def test_each_unit_of_the_path_leads_on(self):
        rows = [([], 0, [FIRST, LAST]), ([(MID, 1)], 1, [FIRST]), ([(ROOT, 1)], 0, [self.AGAIN, LAST])]
        both = [ask(), ask(MID)]
        self.assertIs(self.shown(2, rows, both), True)
        for at in (0, 1, 2):
            self.assertIs(self.shown(2, rows[:at] + rows[at + 1:], both), False)
        self.assertIs(self.shown(2, [rows[0], rows[2]], both, spared=[(MID, 1)]), True)

    def test_kept(self):
        row = [([], 0, None)]
        self.assertIs(self.shown(1, row, kept=[ask(LOW)]), True)
        self.assertIs(self.shown(None, row, kept=[ask(LOW)]), True)
        self.assertIs(self.shown(1, row, kept=[ask(MID)]), False)
        self.assertIs(self.shown(1, row, kept=[ask(MID), ask(LOW)]), False)
        self.assertIs(self.shown(1, [([], 1, None)], kept=[ask(MID), ask(LOW)]), True)
        self.assertIs(self.shown(1, row), False)
        for at in (-1, 1, True, None):
            self.assertIs(self.shown(1, [([], at, None)], kept=[ask(LOW)]), False)

    def test_kept_ones_that_are_shut_without_units(self):
        rows = [([], 0, [FIRST]), ([(ROOT, 1)], 0, [self.AGAIN]),
                ([(ROOT, 1), (ROOT, 2)], 0, None)]
        self.assertIs(self.shown(None, rows, kept=[ask()]), True)
        self.assertIs(self.shown(None, rows, kept=[ask(day=30)]), True)
        self.assertIs(self.shown(None, rows[:1] + [([(ROOT, 1)], 0, None)], kept=[ask()]), False)
        self.assertIs(self.shown(3, rows[:2], kept=[ask()]), False)

    def test_tuples_and_lists_put_for_one_another(self):
        first, again = self.ROWS
        for rows in ((first, again), [list(first), again], [((), 0, [FIRST]), again],
                     [([], 0, (FIRST,)), again], [first, ([[ROOT, 1]], 0, [self.AGAIN])],
                     [first, ([([("root",), "r"], 1)], 0, [self.AGAIN])],
                     [first, ([((["root"], "r"), 1)], 0, [self.AGAIN])],
                     [first, (((ROOT, 1),), 0, [self.AGAIN])]):
            self.assertIs(self.shown(2, rows), False)

    def test_units_of_another_kind(self):
        for wrong in ((ROOT, True), (ROOT, "1"), (ROOT, -1), (ROOT,), (ROOT, 1, 1), ROOT, None, 1,
                      ("root", 1), ((("root",), 1), 1), (ROOT, None), deep(30), [ROOT, 1]):
            self.assertIs(self.shown(2, [self.ROWS[0], ([wrong], 0, [self.AGAIN])]), False)

    def test_rows_of_another_length(self):
        for row in ((), ([],), ([], 0), ([], 0, [FIRST], None), ([], 0, [FIRST], 0)):
            self.assertIs(self.shown(0, [row]), False)

    def test_any_other_value(self):
        for number in (0, 1, None):
            for thing in EVERY_KIND:
                if thing != [] or thing.__class__ is not list:
                    self.assertIs(self.shown(number, thing), False)
                self.assertIs(self.shown(number, [thing]), False)
                self.assertIs(self.shown(number, [(thing, 0, [FIRST])]),
                              number != None and thing.__class__ is list and thing == []
                              and number < 2)
                self.assertIs(self.shown(number, [([], 0, thing)]), False)

    def test_deep_and_long_things(self):
        for thing in (deep(30), [deep(27)], [([deep(25)], 0, [FIRST])], [([], 0, deep(25))],
                      [([], deep(25), [FIRST])], [0] * 19000, [([], 0, [FIRST])] * 3000,
                      [((ROOT, 1),) * 6000], [([(ROOT, 1)] * 4000, 0, [FIRST])]):
            self.assertIs(self.shown(1, thing), False)

    def test_it_looks_at_all_states(self):
        # Each of more than 500 rules is carried to each of eight keepers.
        keepers = [ROOT, *[((letter,), "k") for letter in "abcdefg"], END]
        line = [paper(keepers[at], keepers[at + 1]) for at in range(8)]
        words = [one + other for one in "abcdefghijklmnopqrstuvwxyz" for other in "abcdefghijklmnopqrst"]
        naming = [paper(LOW, LOW, at, pairs=list(zip(words[at:at + 8], words[at + 8:at + 16])))
                  for at in range(0, 512, 16)]
        bag = Bag([*line, *naming])
        self.assertEqual(len(bag), 40)
        self.assertEqual(raised(search, store(), bag, ask(LOW), limit=4000), 4000)
        self.assertIs(is_shown(store(), bag, [], None, [([], 0, None)], kept=[ask(LOW)]), True)
        self.assertIs(is_shown(store(), bag, [], None, [([], 0, None)], kept=[ask()]), False)


class AsArguments(unittest.TestCase):

    def test_lists_that_are_changed_afterwards_and_asked_again(self):
        papers = [paper(ROOT, MID, 5), paper(MID, END, 5), paper(ROOT, LOW, 6), paper(LOW, END, 6)]
        questions, spared, kept = [ask()], [(ROOT, 5)], [ask(MID)]
        bag = Bag(papers)
        told = shut(store(), bag, questions, spared=spared, kept=kept)
        self.assertEqual((questions, spared, kept), ([ask()], [(ROOT, 5)], [ask(MID)]))
        again = shut(store(), bag, questions, spared=spared, kept=kept)
        self.assertEqual(told, again)
        again[2][0][2].clear()
        again[2][0][0].append(1)
        again[2].clear()
        again[1].clear()
        self.assertEqual(shut(store(), bag, questions, spared=spared, kept=kept), told)
        self.assertEqual(bag, Bag(papers))
        rows = told[2]
        before = [(list(units), at, list(path)) for units, at, path in rows]
        self.assertIs(is_shown(store(), bag, questions, 2, rows, spared=spared, kept=kept), True)
        self.assertEqual(rows, before)

    def test_no_list_stands_at_two_places(self):
        bag = Bag([paper(ROOT, END, serial) for serial in range(4)])
        word, units, rows = shut(store(), bag, [ask()])
        lists = [units, rows] + [part for row in rows for part in (row[0], row[2])]
        self.assertEqual(word, "shut")
        self.assertEqual(len({id(one) for one in lists}), len(lists))

    def test_the_order_of_spared_units_papers_and_notices(self):
        for seed, stores, bag, questions, spared, kept in drawn(1500, 25):
            told = shut(stores, bag, questions, spared=spared, kept=kept, limit=4000)
            other = Bag(shuffled(bag.papers() * 2, seed), shuffled(bag.notices() * 2, seed))
            anchors = Store(shuffled(stores.anchors() * 2, seed))
            self.assertEqual(shut(anchors, other, questions, spared=shuffled(spared * 2, seed),
                                  kept=kept, limit=4000), told, seed)

    def test_tuples_for_the_parameters_with_defaults(self):
        self.assertEqual(shut(store(), LINE, [ask()], spared=((MID, 1),), kept=(ask(MID),)),
                         shut(store(), LINE, [ask()], spared=[(MID, 1)], kept=[ask(MID)]))

    def test_questions_that_are_told_twice(self):
        told = shut(store(), LINE, [ask(LOW), ask(LOW), ask(), ask()], kept=[ask(MID), ask(MID)])
        self.assertEqual(told, ("shut", [(MID, 1)], [([], 2, [FIRST, LAST])]))

    def test_by_keyword(self):
        with self.assertRaises(TypeError):
            shut(store(), LINE, [ask()], [])
        with self.assertRaises(TypeError):
            is_shown(store(), LINE, [ask()], 1, [], [])

    def test_each_path_holds(self):
        for seed, stores, bag, questions, spared, kept in drawn(1700, 40):
            told = shut(stores, bag, questions, spared=spared, kept=kept, limit=4000)
            for units, at, path in told[-1]:
                if path is not None:
                    self.assertTrue(holds(stores, bag.without(units), questions[at], path), seed)


if __name__ == "__main__":
    unittest.main()
