"""Point 90, and guarantee 13: what one further paper of a keeper can open."""

import unittest

from vouchchains.bags import Bag, Question, Store
from vouchchains.further import atlas, opened, paper_for
from vouchchains.judging import holds
from vouchchains.limits import Limits
from vouchchains.papers import Notice, Paper
from vouchchains.regions import Region, cells
from vouchchains.searching import search, table
from vouchchains.spans import breaks
from vouchchains.states import starts
from kinds import drawing, shuffled
from makes import END, LOW, MID, ROOT, anchor, ask, fan, paper, raised, store
import plain
import worlds

ALL = Region.under(())
LAST_DAY = 10 ** 9
FIRST, LAST = paper(ROOT, MID, region=Region.under(("mid",)), last=90), paper(MID, END)
LINE = Bag([FIRST, LAST])
KEEPERS = [*worlds.HOLDERS, (("c",), "n")]


def is_open(stores, bag, question):
    return search(stores, bag, question, limit=4000)[0] == "open"


def every_state(stores, bag, question):
    """All states that can be reached, kept or not."""
    found, last = [], starts(stores, bag, question)
    while last:
        found += last
        last = plain.ascending([one for _, one in plain.behind(last, bag, question)])
    return found


def plain_opened(stores, bag, keeper, question):
    """The Region by the words of the document in parentheses."""
    covered = any(one.issuer == keeper and one.day <= question.day <= one.last
                  for one in bag.notices())
    region = Region()
    for state in every_state(stores, bag, question):
        if (state.holder == keeper and state.left > 0
                and (state.rule is not None or state.unruled != 0)
                and (not question.strict or (state.listed and covered))):
            region = region | state.region
    return region


def widest(bag, keeper, holder):
    """A further paper that bars nothing, neither for a rule that something names nor for others."""
    used = [one.serial for one in bag.papers()] + [serial for one in bag.notices()
                                                   for serial, _ in one.entries]
    pairs = [(rule, rule) for rule in [*worlds.RULES, "a", "b", "fresh"]]
    return Paper(keeper, max([0, *used]) + 1, holder, Limits(0, LAST_DAY, steps=8, pairs=pairs))


def drawn(first, many, most_papers=9):
    """Drawn worlds, each with some keepers: (seed, store, bag, question, keeper)."""
    for seed, stores, bag, asked in worlds.worlds(first, many, most_papers):
        source = drawing(seed)
        issuers = [one.holder for one in stores.anchors()]
        bound = [one.holder for one in bag.papers() if one.issuer in issuers]
        for keepers in (issuers, bound, KEEPERS):
            if keepers:
                yield (seed, stores, bag, asked, source.choice(keepers))


def told(stores, bag, keeper, question, **more):
    return opened(stores, bag, keeper, question.use, question.day, question.rules, question.strict,
                  **more)


class Opened(unittest.TestCase):

    def test_keepers_of_the_store(self):
        self.assertEqual(opened(store(), LINE, ROOT, "web", 30), ALL)
        self.assertEqual(opened(store(anchor(region=Region.under(("mid",)))), Bag(), ROOT, "web", 0),
                         Region.under(("mid",)))
        self.assertEqual(opened(store(anchor(steps=0)), LINE, ROOT, "web", 30), Region())
        self.assertEqual(opened(store(), LINE, ROOT, "web", 100), Region())
        self.assertEqual(opened(store(anchor(uses=["mail"])), LINE, ROOT, "web", 30), Region())
        several = store(anchor(region=Region.under(("a",))), anchor(region=Region.under(("b",))))
        self.assertEqual(opened(several, LINE, ROOT, "web", 30), Region.of([("a",), ("b",)], []))

    def test_keepers_of_papers(self):
        self.assertEqual(opened(store(), LINE, MID, "web", 30), Region.under(("mid",)))
        self.assertEqual(opened(store(), LINE, END, "web", 90), Region.under(("mid",)))
        self.assertEqual(opened(store(), LINE, END, "web", 91), Region())
        self.assertEqual(opened(store(anchor(steps=2)), LINE, END, "web", 30), Region())
        self.assertEqual(opened(store(anchor(steps=3)), LINE, END, "web", 30),
                         Region.under(("mid",)))

    def test_other_keepers(self):
        for keeper in (LOW, (("root",), "s"), (("mid",), "r"), ((), "r")):
            self.assertEqual(opened(store(), LINE, keeper, "web", 30), Region())
            self.assertEqual(opened(Store(), LINE, MID, "web", 30), Region())

    def test_days_on_which_papers_are_back(self):
        bag = Bag([FIRST, LAST], [Notice(ROOT, 0, 0, [(1, 40)])])
        self.assertEqual(opened(store(), bag, MID, "web", 39), Region.under(("mid",)))
        self.assertEqual(opened(store(), bag, MID, "web", 40), Region())

    def test_a_keeper_with_an_anchor_and_papers_to_it(self):
        several = store(anchor(), anchor(MID, region=Region.under(("x",))))
        self.assertEqual(opened(several, LINE, MID, "web", 30), Region.of([("mid",), ("x",)], []))

    def test_rules_that_end(self):
        end = Bag([paper(ROOT, MID, any_rule=False, unruled_for=0)])
        self.assertEqual(opened(store(), end, MID, "web", 30), Region())
        turn = Bag([paper(ROOT, MID, any_rule=False, unruled_for=0, pairs=[("a", "b")])])
        self.assertEqual(opened(store(), turn, MID, "web", 30), ALL)
        self.assertEqual(opened(store(), turn, MID, "web", 30, ["a"]), ALL)
        self.assertEqual(opened(store(), turn, MID, "web", 30, rules=["b"]), Region())
        self.assertEqual(opened(store(), turn, MID, "web", 30, []), Region())
        self.assertEqual(opened(store(), turn, ROOT, "web", 30, []), Region())
        unruled = Bag([paper(ROOT, MID, any_rule=False, unruled_for=1)])
        self.assertEqual(opened(store(), unruled, MID, "web", 30), ALL)
        self.assertEqual(opened(store(), unruled, MID, "web", 30, ["a"]), Region())

    def test_unruled_0_at_an_anchor(self):
        self.assertEqual(opened(store(anchor(unruled_for=0, any_rule=False)), Bag(), ROOT, "web", 5),
                         Region())
        self.assertEqual(opened(store(anchor(unruled_for=0)), Bag(), ROOT, "web", 5), ALL)
        named = anchor(unruled_for=0, any_rule=False, pairs=[("a", "b")])
        self.assertEqual(opened(store(named), Bag(), ROOT, "web", 5), ALL)

    def test_counts_that_bar_any_rule_and_mapping_do_not_bar_plain_pairs(self):
        one = anchor(any_for=0, maps_for=0, unruled_for=0)
        self.assertEqual(opened(store(one), Bag(), ROOT, "web", 5), ALL)
        self.assertEqual(opened(store(one), Bag(), ROOT, "web", 5, ["x"]), ALL)
        found = paper_for(store(one), Bag(), ROOT, ask())
        self.assertIs(holds(store(one), Bag([found]), ask(), [found]), True)

    def test_strict(self):
        bag = Bag([FIRST, LAST], [Notice(ROOT, 20, 60), Notice(MID, 40, 80)])
        for day, keeper, region in ((19, ROOT, Region()), (20, ROOT, ALL), (60, ROOT, ALL),
                                    (61, ROOT, Region()), (39, MID, Region()),
                                    (40, MID, Region.under(("mid",))),
                                    (60, MID, Region.under(("mid",))), (61, MID, Region())):
            self.assertEqual(opened(store(), bag, keeper, "web", day, None, True), region)
        self.assertEqual(opened(store(), bag, END, "web", 50, None, True), Region())
        self.assertEqual(opened(store(), bag, END, "web", 50, None, False), Region.under(("mid",)))

    def test_strict_without_the_use_lists(self):
        notices = [Notice(one, 0, 99) for one in (ROOT, MID)]
        self.assertEqual(opened(store(anchor(uses=["web"])), Bag([FIRST], notices), ROOT, "web", 5,
                                strict=True), Region())
        bag = Bag([paper(ROOT, MID, uses=["web"])], notices)
        self.assertEqual(opened(store(), bag, MID, "web", 5, strict=True), Region())
        self.assertEqual(opened(store(), bag, ROOT, "web", 5, strict=True), ALL)
        bag = Bag([paper(ROOT, MID, uses=["web", "lists"])], notices)
        self.assertEqual(opened(store(), bag, MID, "web", 5, strict=True), ALL)

    def test_parameters(self):
        self.assertEqual(opened(store(), LINE, MID, day=30, use="web"), Region.under(("mid",)))
        self.assertEqual(opened(store(), LINE, MID, "web", 30, None, False, limit=4000),
                         Region.under(("mid",)))
        with self.assertRaises(TypeError):
            opened(store(), LINE, MID, "web", 30, None, False, 400)

    def test_the_words_in_parentheses(self):
        found = 0
        for seed, stores, bag, asked, keeper in drawn(0, 150):
            region = told(stores, bag, keeper, asked, limit=4000)
            self.assertIs(region.__class__, Region)
            found += bool(region) and region != ALL
            self.assertEqual(region, plain_opened(stores, bag, keeper, asked), seed)
        self.assertGreater(found, 12)

    def test_against_one_further_paper_of_drawn_names(self):
        found = []
        for seed, stores, bag, asked, keeper in drawn(500, 60):
            region = told(stores, bag, keeper, asked, limit=4000)
            names = cells([one.limits.region for one in [*stores.anchors(), *bag.papers()]])
            for name in [*names, ("z",), ("a", "b", "z")]:
                holder = (name, "fresh")
                extra = widest(bag, keeper, holder)
                answer = is_open(stores, bag | Bag([extra]), asked.about(holder))
                found.append(answer)
                self.assertEqual(answer, name in region, (seed, name))
        self.assertGreater(found.count(True), 100)
        self.assertGreater(found.count(False), 100)


class PaperFor(unittest.TestCase):

    def test_one_paper(self):
        asked = ask((("mid", "x"), "z"))
        found = paper_for(store(), LINE, MID, asked)
        self.assertIs(found.__class__, Paper)
        self.assertEqual((found.issuer, found.holder), (MID, asked.holder))
        self.assertNotEqual(found.serial, 1)
        self.assertIs(holds(store(), LINE | Bag([found]), asked, [FIRST, found]), True)

    def test_a_name_that_is_not_in_the_region(self):
        self.assertIsNone(paper_for(store(), LINE, MID, ask(LOW)))
        self.assertIsNone(paper_for(store(), LINE, LOW, ask()))
        self.assertIsNone(paper_for(store(), LINE, MID, ask(day=91)))

    def test_serials(self):
        used = [0, 1, 2, 5, 7, 10 ** 39]
        papers = [paper(ROOT, MID, serial) for serial in used[:3]]
        entries = [(serial, 90) for serial in used[2:]]
        others = [paper(MID, END, serial) for serial in range(9)]
        for many in range(4):
            bag = Bag([*papers, *others], [Notice(ROOT, 9, 0, entries[:many]),
                                           Notice(ROOT, 0, 9, entries[many:]),
                                           Notice(MID, 0, 0, [(3, 1), (4, 1)])])
            found = paper_for(store(), bag, ROOT, ask())
            self.assertNotIn(found.serial, used)
            self.assertGreaterEqual(found.serial, 0)
            self.assertIs(holds(store(), bag | Bag([found]), ask(), [found]), True)

    def test_the_holder_is_bound_already(self):
        found = paper_for(store(), LINE, MID, ask())
        self.assertEqual(found.holder, END)
        self.assertNotIn(found, LINE)

    def test_a_rule_that_nothing_names(self):
        # All rules are carried by any_rule, up to here.
        one = anchor(unruled_for=0, any_for=1)
        bag = Bag([paper(ROOT, MID), paper(LOW, LOW, pairs=[("a", "b"), ("c", "d")])])
        found = paper_for(store(one), bag, MID, ask())
        self.assertIs(holds(store(one), bag | Bag([found]), ask(), [*bag.issued(ROOT), found]), True)

    def test_strict(self):
        bag = Bag([FIRST, LAST], [Notice(ROOT, 20, 60), Notice(MID, 40, 80, [(0, 3), (2, 3)])])
        asked = ask((("mid", "x"), "z"), strict=True)
        self.assertIsNone(paper_for(store(), bag, MID, asked.on(39)))
        found = paper_for(store(), bag, MID, asked.on(40))
        self.assertNotIn(found.serial, (0, 1, 2))
        self.assertIs(holds(store(), bag | Bag([found]), asked.on(40), [FIRST, found]), True)

    def test_drawn_worlds(self):
        found = 0
        for seed, stores, bag, asked, keeper in drawn(1000, 90):
            region = told(stores, bag, keeper, asked, limit=4000)
            for holder in [*worlds.HOLDERS, (("z",), "z"), (("a", "b", "z"), "k")]:
                question = asked.about(holder)
                extra = paper_for(stores, bag, keeper, question, limit=4000)
                if extra is None:
                    self.assertNotIn(holder[0], region, seed)
                    continue
                found += 1
                self.assertIn(holder[0], region, seed)
                self.assertEqual((extra.issuer, extra.holder), (keeper, holder))
                self.assertNotIn(extra.serial, [one.serial for one in bag.issued(keeper)])
                self.assertNotIn(extra.serial, [serial for one in bag.notices()
                                                if one.issuer == keeper for serial, _ in one.entries])
                wider = bag | Bag([extra])
                fresh = (holder[0], "fresh")
                again = Paper(keeper, extra.serial, fresh, extra.limits)
                self.assertTrue(is_open(stores, bag | Bag([again]), question.about(fresh)), seed)
                self.assertTrue(any(holds(stores, wider, question, [*path, extra])
                                    for path in self.ways(stores, bag, keeper, question)), seed)
        self.assertGreater(found, 150)

    def ways(self, stores, bag, keeper, question):
        """The lists of papers from anchors to a keeper, of up to five papers."""
        roots = [one.holder for one in stores.anchors()]
        yield []
        for many in range(1, 6):
            lines = [line for line in plain.lines(bag, many) if line[0].issuer in roots]
            yield from [line for line in lines if line[-1].holder == keeper]


class Atlas(unittest.TestCase):

    def test_uses_of_the_store_and_of_the_bag(self):
        several = store(anchor(uses=["web", "mail"]), anchor(LOW, uses=["x"]))
        bag = Bag([paper(ROOT, MID, uses=["web", "y"])])
        self.assertEqual(atlas(several, bag, ROOT), [("mail", 0, 99, ALL.rows()),
                                                     ("web", 0, 99, ALL.rows())])
        self.assertEqual(atlas(several, bag, MID), [("web", 0, 99, ALL.rows())])
        self.assertEqual(atlas(several, bag, LOW), [("x", 0, 99, ALL.rows())])
        self.assertEqual(atlas(several, bag, END), [])
        self.assertEqual(atlas(store(), bag, ROOT),
                         [(use, 0, 99, ALL.rows()) for use in ("", "lists", "web", "y")])
        self.assertEqual(atlas(store(), Bag(), ROOT), [("", 0, 99, ALL.rows()),
                                                       ("lists", 0, 99, ALL.rows())])

    def test_one_letter_uses(self):
        letters = "abcdefghijklmnopqrstuvwxyz"
        bag = Bag([paper(LOW, MID, at, uses=list(letters[at:at + 8])) for at in range(0, 26, 8)])
        told_uses = [row[0] for row in atlas(store(), bag, ROOT)]
        self.assertEqual(told_uses, sorted(["", "lists", *letters]))
        self.assertEqual(atlas(store(anchor(LOW)), bag, MID)[0][0], "a")

    def test_days(self):
        papers = [paper(ROOT, MID, 1, 10, 20, region=Region.under(("a",))),
                  paper(ROOT, MID, 2, 15, 30, region=Region.under(("b",))),
                  paper(ROOT, MID, 3, 40, 50, region=Region.under(("b",))),
                  paper(ROOT, MID, 4, 51, 60, region=Region.under(("b",)))]
        rows = [[(("a",), True)], [(("a",), True), (("b",), True)], [(("b",), True)]]
        self.assertEqual(atlas(store(), Bag(papers), MID)[:4], [
            ("", 10, 14, rows[0]), ("", 15, 20, rows[1]), ("", 21, 30, rows[2]),
            ("", 40, 60, rows[2])])

    def test_up_to_the_last_day(self):
        self.assertEqual(atlas(store(anchor(first=7, last=LAST_DAY)), Bag(), ROOT)[0],
                         ("", 7, LAST_DAY, ALL.rows()))

    def test_rules_and_strict_questions(self):
        bag = Bag([paper(ROOT, MID, any_rule=False, pairs=[("a", "b")])],
                  [Notice(ROOT, 0, 70), Notice(MID, 20, 30), Notice(MID, 31, 40)])
        self.assertEqual(atlas(store(), bag, MID, ["b"]), [])
        self.assertEqual([row[:3] for row in atlas(store(), bag, MID, ["a"])],
                         [("", 0, 99), ("lists", 0, 99)])
        self.assertEqual([row[:3] for row in atlas(store(), bag, MID, None, True)],
                         [("", 20, 40), ("lists", 20, 40)])
        self.assertEqual([row[:3] for row in atlas(store(), bag, MID, rules=[], strict=True)], [])

    def test_drawn_worlds(self):
        many = 0
        for seed, stores, bag, asked, keeper in drawn(2000, 40):
            found = atlas(stores, bag, keeper, asked.rules, asked.strict, limit=4000)
            self.assertEqual(found, sorted(found))
            many += len(found)
            words = {use for one in [*stores.anchors(), *bag.papers()]
                     for use in one.limits.uses or ()} | {"lists"}
            self.assertLessEqual({row[0] for row in found}, words | {""})
            for use in ["", *sorted(words)]:
                rows = [row[1:] for row in found if row[0] == use]
                self.check(seed, stores, bag, asked, keeper, use or "nouse", rows)
        self.assertGreater(many, 80)

    def check(self, seed, stores, bag, asked, keeper, use, rows):
        """Compare the rows of one use with what opened returns on each break, and between them."""
        for (_, last, region), (first, _, other) in zip(rows, rows[1:]):
            self.assertTrue(last < first)
            self.assertTrue(last + 1 < first or region != other, seed)
        ends = [day for first, last, _ in rows for day in (first, last)]
        for day in sorted({*breaks(stores, bag), *ends}):
            told_rows = [region for first, last, region in rows if first <= day <= last]
            wanted = opened(stores, bag, keeper, use, day, asked.rules, asked.strict, limit=4000)
            self.assertEqual(told_rows, [wanted.rows()] if wanted else [], (seed, use, day))
        for first, last, region in rows:
            self.assertLessEqual(first, last)
            self.assertTrue(region)


class TooManyStates(unittest.TestCase):

    STORE = store(anchor(any_rule=False))
    BAG = Bag(fan(ROOT, MID, 5, first=10, last=20, uses=["web"]))

    def test_as_table(self):
        for keeper in (ROOT, MID, LOW):
            asked = ask((("x",), "x"), day=15)
            self.assertEqual(raised(table, self.STORE, self.BAG, asked, limit=5), 5)
            self.assertEqual(raised(opened, self.STORE, self.BAG, keeper, "web", 15, limit=5), 5)
            self.assertEqual(raised(paper_for, self.STORE, self.BAG, keeper, asked, limit=5), 5)
            self.assertEqual(raised(atlas, self.STORE, self.BAG, keeper, limit=5), 5)
            self.assertIsNone(raised(opened, self.STORE, self.BAG, keeper, "web", 15, limit=6))
            self.assertIsNone(raised(paper_for, self.STORE, self.BAG, keeper, asked, limit=6))
            self.assertIsNone(raised(atlas, self.STORE, self.BAG, keeper, limit=6))

    def test_other_days_and_uses(self):
        self.assertIsNone(raised(opened, self.STORE, self.BAG, MID, "web", 9, limit=1))
        self.assertIsNone(raised(opened, self.STORE, self.BAG, MID, "mail", 15, limit=1))
        self.assertIsNone(raised(paper_for, self.STORE, self.BAG, MID, ask(use="mail"), limit=1))

    def test_a_table_for_all_holders(self):
        # search would find a way before it has looked at too many states.
        asked = ask(MID, day=15)
        self.assertEqual(search(self.STORE, self.BAG, asked, limit=1)[0], "open")
        self.assertEqual(raised(paper_for, self.STORE, self.BAG, ROOT, asked, limit=5), 5)

    def test_strict_and_not_covered(self):
        bag = self.BAG | Bag([], [Notice(ROOT, 0, 99)])
        self.assertEqual(raised(opened, self.STORE, bag, LOW, "web", 15, None, True, limit=3), 3)
        wide = Bag(fan(ROOT, MID, 5), [Notice(ROOT, 0, 99)])
        self.assertEqual(raised(opened, self.STORE, wide, LOW, "web", 15, None, True, limit=5), 5)
        self.assertEqual(raised(atlas, self.STORE, wide, LOW, None, True, limit=5), 5)

    def test_the_default_limit(self):
        pairs = [[(one + two, one + two) for two in "abcdefgh"] for one in "abcdefghijklmnopqrstuvwxyz"]
        bag = Bag([paper(LOW, LOW, at, pairs=some) for at, some in enumerate(pairs)]
                  + [paper(ROOT, MID)])
        self.assertEqual(len(table(store(), bag, ask(), limit=4000)), 2 * (26 * 8 + 2))
        self.assertEqual(raised(opened, store(), bag, MID, "web", 3), 400)
        self.assertEqual(raised(paper_for, store(), bag, MID, ask()), 400)
        self.assertEqual(raised(atlas, store(), bag, MID), 400)
        self.assertEqual(opened(store(), bag, MID, "web", 3, limit=420), ALL)


class OneMore(unittest.TestCase):

    def test_what_further_papers_of_some_keepers_open_one_opens(self):
        both = 0
        for seed, stores, bag, asked in worlds.worlds(3000, 300, 7):
            source = drawing(seed)
            keepers = source.sample(worlds.HOLDERS, source.randint(1, 3))
            papers = [Paper(source.choice(keepers), 50 + at, source.choice(worlds.HOLDERS),
                            worlds.limits(source, 0.9)) for at in range(4)]
            if is_open(stores, bag, asked) or not is_open(stores, bag | Bag(papers), asked):
                continue
            both += 1
            found = [paper_for(stores, bag, keeper, asked, limit=4000) for keeper in keepers]
            self.assertTrue(any(one is not None for one in found), seed)
            self.assertTrue(any(asked.holder[0] in told(stores, bag, keeper, asked, limit=4000)
                                for keeper in keepers), seed)
        self.assertGreater(both, 15)


class AsArguments(unittest.TestCase):

    def test_asked_again_and_in_another_order(self):
        for seed, stores, bag, asked, keeper in drawn(4000, 8):
            other = (Store(shuffled(stores.anchors() * 2, seed)),
                     Bag(shuffled(bag.papers() * 2, seed), shuffled(bag.notices() * 2, seed)), keeper)
            rules = None if asked.rules is None else shuffled(asked.rules * 2, seed)
            first = atlas(stores, bag, keeper, asked.rules, asked.strict)
            self.assertEqual(atlas(*other, rules, asked.strict), first)
            self.assertEqual(told(*other, asked), told(stores, bag, keeper, asked))
            self.assertEqual(paper_for(*other, asked), paper_for(stores, bag, keeper, asked))

    def test_lists_that_are_changed(self):
        rules = ["a", "b"]
        first = atlas(store(), LINE, MID, rules)
        self.assertEqual(rules, ["a", "b"])
        again = atlas(store(), LINE, MID, rules)
        self.assertEqual(first, again)
        self.assertEqual(len({id(row[3]) for row in first}), len(first))
        first[0][3].clear()
        first.clear()
        self.assertEqual(atlas(store(), LINE, MID, rules), again)
        opened(store(), LINE, MID, "web", 30).rows().clear()
        self.assertEqual(opened(store(), LINE, MID, "web", 30), Region.under(("mid",)))

    def test_by_keyword(self):
        for call in (lambda: paper_for(store(), LINE, MID, ask(), 400),
                     lambda: atlas(store(), LINE, MID, None, False, 400)):
            with self.assertRaises(TypeError):
                call()
        self.assertEqual(atlas(store(), LINE, MID, strict=False, rules=None, limit=400),
                         atlas(store(), LINE, MID))
        self.assertEqual(paper_for(store(), LINE, MID, Question(END, "web", 5)).issuer, MID)


if __name__ == "__main__":
    unittest.main()
