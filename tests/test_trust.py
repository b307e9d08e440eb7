"""Points 82 and 83: the fewest anchors to add, and those to take out."""

import itertools
import unittest

from vouchchains.bags import Bag, Question, Store
from vouchchains.errors import TooMany
from vouchchains.papers import Notice
from vouchchains.regions import Region
from vouchchains.searching import search
from vouchchains.trust import add, distrusted, opening
from kinds import drawing, shuffled
from makes import END, LOW, MID, ROOT, anchor, ask, fan, paper, raised, store
import worlds

FIRST, LAST = paper(ROOT, MID), paper(MID, END)
LINE = Bag([FIRST, LAST])
FAR, NEAR = anchor(), anchor(MID)
OTHER = (("other",), "o")


def is_open(stores, bag, question, limit=4000):
    return search(stores, bag, question, limit=limit)[0] == "open"


def plain_opening(bag, one, questions, limit=400):
    return [at for at, question in enumerate(questions)
            if is_open(Store([one]), bag, question, limit)]


def plain_add(stores, bag, questions, pool, barred=(), limit=400):
    """What add returns, by the words of the document."""
    for question in [*questions, *barred]:
        for some in [stores, *[Store([one]) for one in pool]]:
            search(some, bag, question, limit=limit)
    for at, question in enumerate(barred):
        if is_open(stores, bag, question):
            return ("barred", at)
    able = [one for one in Store(pool).anchors() if not plain_opening(bag, one, barred)]
    for at, question in enumerate(questions):
        if not any(is_open(some, bag, question)
                   for some in [stores, *[Store([one]) for one in able]]):
            return ("never", at)
    level, rows, many = [()], [], 0
    while True:
        many += len(level)
        if many > limit:
            raise TooMany(limit)
        told, following = [], set()
        for chosen in level:
            wider = stores | Store([able[at] for at in chosen])
            left = [at for at, question in enumerate(questions) if not is_open(wider, bag, question)]
            if not left:
                return ("add", [able[at] for at in chosen], rows)
            told.append(([able[at] for at in chosen], left[0]))
            for at, one in enumerate(able):
                if is_open(Store([one]), bag, questions[left[0]]):
                    following.add(tuple(sorted({*chosen, at})))
        rows = rows + told
        level = sorted(following)


def drawn(first, many, most_papers=9):
    """Drawn worlds: (seed, store, bag, questions, pool, barred)."""
    for seed, stores, bag, asked in worlds.worlds(first, many, most_papers):
        source = drawing(seed)
        about = [asked.about(one.holder) for one in bag.papers()]
        about += [Question(one.holder, one.use, one.day + 3) for one in about]
        questions = [source.choice(about) for _ in range(source.choice([0, 1, 2, 2, 3, 4]))]
        barred = [source.choice(about) for _ in range(source.choice([0, 0, 1, 1]))]
        ease = source.choice([0.6, 0.8, 0.9])
        pool = [worlds.anchor(source, ease) for _ in range(source.randint(0, 4))]
        holders = [one.issuer for one in bag.papers()]
        pool += [worlds.Anchor(source.choice(holders), worlds.limits(source, ease))
                 for _ in range(source.randint(0, 5))]
        if source.random() < 0.6:
            fit = [one for one in about if any(plain_opening(bag, each, [one]) for each in pool)]
            questions = source.sample(fit, min(len(fit), 4))
        yield (seed, source.choice([stores, Store()]), bag, questions, pool, barred)


class Opening(unittest.TestCase):

    def test_no_questions(self):
        self.assertEqual(opening(LINE, FAR, []), [])
        self.assertIs(opening(LINE, FAR, []).__class__, list)

    def test_several(self):
        questions = [ask(LOW), ask(), ask(day=100), ask(MID), ask()]
        self.assertEqual(opening(LINE, FAR, questions), [1, 3, 4])
        self.assertEqual(opening(LINE, NEAR, questions), [1, 4])
        self.assertEqual(opening(LINE, anchor(LOW), questions), [])
        self.assertEqual(opening(LINE, anchor(last=29), questions), [])
        self.assertEqual(opening(LINE, anchor(steps=1), questions), [3])

    def test_notices_and_strict_questions(self):
        bag = Bag([FIRST, LAST], [Notice(ROOT, 0, 99), Notice(MID, 40, 50, [(1, 45)])])
        questions = [ask(strict=True), ask(day=44, strict=True), ask(day=45), ask(MID, strict=True)]
        self.assertEqual(opening(bag, FAR, questions), [1, 3])

    def test_too_many_states(self):
        bag = Bag(fan(ROOT, MID, 5))
        one = anchor(any_rule=False)
        self.assertEqual(opening(bag, one, [ask(MID), ask(LOW)], limit=6), [0])
        self.assertEqual(raised(opening, bag, one, [ask(MID), ask(LOW)], limit=5), 5)
        self.assertEqual(raised(opening, bag, one, [ask(LOW), ask(MID)], limit=5), 5)
        self.assertEqual(opening(bag, one, [ask(MID)], limit=1), [0])
        self.assertEqual(raised(opening, Bag([paper(ROOT, MID), *fan(MID, LOW, 9)]), one,
                                [ask()], limit=10), 10)

    def test_drawn_worlds(self):
        found = 0
        for seed, stores, bag, questions, pool, barred in drawn(0, 60):
            for one in pool:
                told = opening(bag, one, questions, limit=4000)
                found += len(told)
                self.assertEqual(told, plain_opening(bag, one, questions), seed)
        self.assertGreater(found, 40)


class Add(unittest.TestCase):

    def test_no_questions(self):
        self.assertEqual(add(Store(), LINE, [], [FAR, NEAR]), ("add", [], []))
        self.assertEqual(add(Store(), LINE, [], []), ("add", [], []))

    def test_questions_that_are_open_already(self):
        self.assertEqual(add(store(FAR), LINE, [ask(), ask(MID)], [NEAR]), ("add", [], []))

    def test_one_anchor(self):
        told = add(Store(), LINE, [ask()], [FAR, NEAR])
        self.assertEqual(told, ("add", [NEAR], [([], 0)]))
        self.assertEqual([told.__class__, told[1].__class__, told[2].__class__,
                          told[2][0].__class__, told[2][0][0].__class__], [tuple, list, list, tuple, list])

    def test_the_first_level_that_has_an_answer(self):
        # The near one opens the first question, the far one both: so one is enough.
        told = add(Store(), LINE, [ask(), ask(MID)], [NEAR, FAR])
        self.assertEqual(told, ("add", [FAR], [([], 0)]))

    def test_two_anchors(self):
        bag = Bag([FIRST, LAST, paper(LOW, OTHER)])
        told = add(Store(), bag, [ask(OTHER), ask(MID)], [NEAR, FAR, anchor(LOW)])
        self.assertEqual(told, ("add", [anchor(LOW), FAR],
                                [([], 0), ([anchor(LOW)], 1)]))
        told = add(Store(), bag, [ask(), ask(OTHER)], [NEAR, FAR, anchor(LOW)])
        self.assertEqual(told, ("add", [anchor(LOW), NEAR],
                                [([], 0), ([NEAR], 1), ([FAR], 1)]))

    def test_the_least_answer_of_a_level(self):
        several = [anchor(MID, last=last) for last in (60, 50, 40)]
        told = add(Store(), LINE, [ask()], several)
        self.assertEqual(told, ("add", [anchor(MID, last=40)], [([], 0)]))

    def test_the_rows_of_a_level_are_ascending(self):
        bag = Bag([paper(LOW, OTHER), paper(LOW, END), paper(MID, END), paper(MID, OTHER),
                   paper(ROOT, ROOT)])
        asked = [ask(), ask(ROOT)]
        told = add(Store(), bag, asked, [anchor(LOW), anchor(MID), FAR])
        self.assertEqual(told, ("add", [anchor(LOW), FAR], [([], 0), ([anchor(LOW)], 1),
                                                           ([anchor(MID)], 1)]))

    def test_two_rows_that_lead_to_one_set(self):
        # The first opens 0 and 2, the second 1 and 2, the third 0 and 1: any two open all.
        ends = [(("e", letter), "e") for letter in "abc"]
        roots = [((letter,), "r") for letter in "abc"]
        bag = Bag([paper(roots[0], ends[0]), paper(roots[0], ends[2]), paper(roots[1], ends[1]),
                   paper(roots[1], ends[2]), paper(roots[2], ends[0]), paper(roots[2], ends[1])])
        pool = [anchor(one, any_rule=False) for one in roots]
        # Sets of one: the first and the third; of two: all three pairs, each once.
        told = add(Store(), bag, [ask(end) for end in ends], pool, limit=6)
        self.assertEqual(told, ("add", pool[:2], [([], 0), ([pool[0]], 1), ([pool[2]], 2)]))
        self.assertEqual(raised(add, Store(), bag, [ask(end) for end in ends], pool, limit=5), 5)

    def test_barred_questions_that_are_open_in_the_store(self):
        barred = [ask(LOW), ask(MID), ask()]
        self.assertEqual(add(store(FAR), LINE, [ask(LOW)], [NEAR], barred=barred), ("barred", 1))
        self.assertEqual(add(store(NEAR), LINE, [], [], barred=barred), ("barred", 2))
        self.assertEqual(add(store(FAR), LINE, [ask()], [], barred=[ask()]), ("barred", 0))

    def test_questions_that_nothing_opens(self):
        self.assertEqual(add(Store(), LINE, [ask(LOW)], [FAR, NEAR]), ("never", 0))
        self.assertEqual(add(Store(), LINE, [ask(), ask(LOW), ask(OTHER)], [FAR, NEAR]),
                         ("never", 1))
        self.assertEqual(add(store(NEAR), LINE, [ask(), ask(MID)], []), ("never", 1))

    def test_an_anchor_that_opens_a_barred_question_too(self):
        self.assertEqual(add(Store(), LINE, [ask(MID)], [FAR, NEAR], barred=[ask()]), ("never", 0))
        self.assertEqual(add(Store(), LINE, [ask()], [FAR, NEAR], barred=[ask(MID)]),
                         ("add", [NEAR], [([], 0)]))
        self.assertEqual(add(Store(), LINE, [ask(), ask(MID)], [FAR, NEAR], barred=[ask(MID)]),
                         ("never", 1))

    def test_a_pool_with_an_anchor_twice_and_with_anchors_of_the_store(self):
        told = add(Store(), LINE, [ask()], [FAR, NEAR])
        self.assertEqual(add(Store(), LINE, [ask()], [NEAR, FAR, NEAR, FAR]), told)
        self.assertEqual(add(store(NEAR), LINE, [ask(), ask(MID)], [NEAR, FAR, NEAR]),
                         ("add", [FAR], [([], 1)]))
        two = [anchor(MID), anchor(MID, steps=7)]
        self.assertEqual(add(Store(), LINE, [ask()], two * 2), ("add", [two[1]], [([], 0)]))

    def test_anchors_never_work_together(self):
        # One has the names, the other one the steps.
        narrow = anchor(region=Region.under(("mid",)), steps=1)
        self.assertEqual(add(Store(), LINE, [ask()], [narrow, anchor(region=Region())]),
                         ("never", 0))

    def test_drawn_worlds(self):
        words, sizes = [], []
        for seed, stores, bag, questions, pool, barred in drawn(300, 150):
            told = add(stores, bag, questions, pool, barred=barred, limit=4000)
            self.assertEqual(told, plain_add(stores, bag, questions, pool, barred, 4000), seed)
            words.append(told[0])
            sizes.append(len(told[1]) if told[0] == "add" else 0)
        self.assertGreater(words.count("barred"), 3)
        self.assertGreater(words.count("never"), 20)
        self.assertGreater(sizes.count(1), 10)
        self.assertGreater(sizes.count(2), 3)

    def test_no_fewer_anchors_do(self):
        tried = 0
        for seed, stores, bag, questions, pool, barred in drawn(700, 100, 7):
            told = add(stores, bag, questions, pool, barred=barred, limit=4000)
            most = len(told[1]) - 1 if told[0] == "add" else len(pool)
            if told[0] == "add":
                wider = stores | Store(told[1])
                self.assertTrue(all(is_open(wider, bag, one) for one in questions), seed)
                self.assertFalse(any(is_open(wider, bag, one) for one in barred), seed)
            for many in range(min(most, 3) + 1):
                for chosen in itertools.combinations(pool, many):
                    wider = stores | Store(chosen)
                    tried += 1
                    self.assertFalse(all(is_open(wider, bag, one) for one in questions)
                                     and not any(is_open(wider, bag, one) for one in barred), seed)
        self.assertGreater(tried, 300)


class AddTooMany(unittest.TestCase):

    # Questions for this use have more states than the others.
    BAG = Bag([FIRST, LAST, *fan(LOW, OTHER, 6, uses=["big"])])
    BIG = ask((("far",), "f"), use="big")
    WIDE = anchor(LOW, any_rule=False)
    PLAIN = anchor(any_rule=False)

    def test_of_a_search_in_the_store_or_of_an_anchor(self):
        for stores, pool in ((store(self.WIDE), []), (Store(), [self.PLAIN, self.WIDE])):
            for questions, barred in (([self.BIG], []), ([], [self.BIG])):
                self.assertEqual(raised(add, stores, self.BAG, questions, pool, barred=barred,
                                        limit=6), 6)
                self.assertIsNone(raised(add, stores, self.BAG, questions, pool, barred=barred,
                                         limit=7))

    def test_before_all_else(self):
        open_one = store(self.PLAIN)
        self.assertEqual(add(open_one, self.BAG, [], [], barred=[ask()], limit=6), ("barred", 0))
        self.assertEqual(raised(add, open_one, self.BAG, [self.BIG], [self.WIDE], barred=[ask()],
                                limit=6), 6)
        self.assertEqual(add(open_one, self.BAG, [ask(LOW)], [], limit=6), ("never", 0))
        self.assertEqual(raised(add, open_one, self.BAG, [ask(LOW), self.BIG], [self.WIDE],
                                limit=6), 6)
        # The anchor that opens a barred question is looked at for all questions.
        self.assertEqual(raised(add, Store(), self.BAG, [self.BIG], [self.WIDE], limit=6,
                                barred=[ask(OTHER, use="big")]), 6)

    def test_the_questions_are_asked_in_the_store_too(self):
        self.assertEqual(raised(add, store(self.WIDE), self.BAG, [ask(), self.BIG], [self.PLAIN],
                                limit=6), 6)

    def test_before_a_level(self):
        # Three questions, each opened by three anchors of its own: 1, 3, 9 and 27 sets.
        ends = [(("e", letter), "e") for letter in "abc"]
        pool, papers = [], []
        for end in ends:
            for at in range(3):
                keeper = (end[0], "abc"[at])
                pool.append(anchor(keeper, any_rule=False))
                papers.append(paper(keeper, end))
        questions = [ask(end) for end in ends]
        told = add(Store(), Bag(papers), questions, pool, limit=40)
        self.assertEqual((told[1], len(told[2])), ([pool[0], pool[3], pool[6]], 13))
        self.assertEqual(raised(add, Store(), Bag(papers), questions, pool, limit=39), 39)
        self.assertEqual(raised(add, Store(), Bag(papers), questions, pool, limit=12), 12)
        self.assertEqual(add(Store(), Bag(papers), questions[:2], pool, limit=13)[1],
                         [pool[0], pool[3]])
        self.assertEqual(raised(add, Store(), Bag(papers), questions[:2], pool, limit=12), 12)
        many = [Question(one.holder, one.use, day) for one in questions for day in (1, 2)]
        dated = [anchor(one.holder, day, day, any_rule=False) for one in pool for day in (1, 2)]
        self.assertEqual(raised(add, Store(), Bag(papers), many, dated), 400)
        self.assertIsNone(raised(add, Store(), Bag(papers), many, dated, limit=4000))


class Distrusted(unittest.TestCase):

    def test_no_questions(self):
        self.assertEqual(distrusted(store(FAR, NEAR), LINE, []), [])
        self.assertEqual(distrusted(Store(), LINE, [ask()]), [])

    def test_several(self):
        several = store(FAR, NEAR, anchor(LOW), anchor(steps=1), anchor(last=20))
        self.assertEqual(distrusted(several, LINE, [ask()]), [NEAR, FAR])
        self.assertEqual(distrusted(several, LINE, [ask(MID)]), [anchor(steps=1), FAR])
        self.assertEqual(distrusted(several, LINE, [ask(LOW), ask(MID), ask()]),
                         [NEAR, anchor(steps=1), FAR])
        self.assertEqual(distrusted(several, LINE, [ask(LOW)]), [])

    def test_all_questions_are_shut_without_these_alone(self):
        found = 0
        for seed, stores, bag, questions, pool, barred in drawn(1000, 80):
            wider = stores | Store(pool[:3])
            told = distrusted(wider, bag, questions, limit=4000)
            found += len(told)
            rest = wider
            for one in told:
                self.assertTrue(any(is_open(Store([one]), bag, asked) for asked in questions), seed)
                rest = rest.without(one)
            self.assertFalse(any(is_open(rest, bag, asked) for asked in questions), seed)
            rows = [one.row() for one in told]
            self.assertEqual(rows, sorted(rows))
        self.assertGreater(found, 40)

    def test_too_many_states(self):
        bag, big = AddTooMany.BAG, AddTooMany.BIG
        several = store(AddTooMany.WIDE, AddTooMany.PLAIN)
        self.assertEqual(distrusted(several, bag, [ask()], limit=6), [AddTooMany.PLAIN])
        self.assertEqual(raised(distrusted, several, bag, [ask(), big], limit=6), 6)
        self.assertEqual(raised(distrusted, several, bag, [big, ask()], limit=6), 6)
        self.assertEqual(distrusted(several, bag, [ask(), big], limit=7), [AddTooMany.PLAIN])
        self.assertEqual(raised(distrusted, several, bag, [ask(MID), ask(OTHER, use="big"), big],
                                limit=6), 6)


class AsArguments(unittest.TestCase):

    def test_lists_that_are_changed_afterwards_and_asked_again(self):
        bag = Bag([FIRST, LAST, paper(LOW, OTHER)])
        questions, pool, barred = [ask(), ask(OTHER)], [NEAR, anchor(LOW)], [ask(MID)]
        told = add(Store(), bag, questions, pool, barred=barred)
        self.assertEqual((len(questions), len(pool), len(barred)), (2, 2, 1))
        self.assertEqual(pool, [NEAR, anchor(LOW)])
        again = add(Store(), bag, questions, pool, barred=barred)
        self.assertEqual(again, told)
        again[2][0][0].append(1)
        again[2].clear()
        again[1].clear()
        self.assertEqual(add(Store(), bag, questions, pool, barred=tuple(barred)), told)
        lists = [told[1], told[2], *[row[0] for row in told[2]]]
        self.assertEqual(len({id(one) for one in lists}), len(lists))
        found = distrusted(store(NEAR), bag, questions)
        found.clear()
        self.assertEqual(distrusted(store(NEAR), bag, questions), [NEAR])

    def test_the_order_of_pool_papers_and_notices(self):
        for seed, stores, bag, questions, pool, barred in drawn(1300, 25):
            other = Bag(shuffled(bag.papers() * 2, seed), shuffled(bag.notices() * 2, seed))
            again = shuffled(pool * 2, seed)
            self.assertEqual(add(stores, other, questions, again, barred=barred, limit=4000),
                             add(stores, bag, questions, pool, barred=barred, limit=4000), seed)

    def test_by_keyword(self):
        for call in (lambda: opening(LINE, FAR, [ask()], 400),
                     lambda: add(Store(), LINE, [ask()], [FAR], []),
                     lambda: distrusted(Store(), LINE, [ask()], 400)):
            with self.assertRaises(TypeError):
                call()


if __name__ == "__main__":
    unittest.main()
