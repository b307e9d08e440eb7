"""Points 60 and 61: the layers, the least of the shortest paths, and the tables."""

import unittest

from vouchchains.bags import Bag, Question, Store
from vouchchains.errors import TooMany
from vouchchains.judging import holds
from vouchchains.limits import Limits
from vouchchains.papers import Anchor, Notice, Paper
from vouchchains.regions import Region
from vouchchains.searching import is_table, search, table
from vouchchains.states import State, maximal, starts, step
from kinds import EVERY_KIND, deep, drawing, shuffled
import plain
import worlds

ROOT, MID, LOW, END = (("root",), "r"), (("mid",), "m"), (("low",), "l"), (("mid", "web"), "w")


def paper(issuer, holder, serial=1, first=0, last=99, **more):
    return Paper(issuer, serial, holder, Limits(first, last, **{"steps": 8, **more}))


def store(**more):
    return Store([Anchor(ROOT, Limits(0, 99, **{"steps": 8, **more}))])


def ask(**more):
    parts = {"holder": END, "use": "web", "day": 30, "rules": None, "strict": False}
    return Question(*{**parts, **more}.values())


def word(number):
    """One of many words."""
    letters = "abcdefghijklmnopqrstuvwxyz"
    return "r" + letters[number // 26 - number // 676 * 26] + letters[number - number // 26 * 26]


def naming(many):
    """Papers that nobody's path has, and that name so many rules."""
    words = [word(number) for number in range(many)]
    pairs = [(words[at], words[min(at + 1, many - 1)]) for at in range(0, many, 2)]
    return [paper(LOW, LOW, serial, steps=0, pairs=pairs[at:at + 8])
            for serial, at in enumerate(range(0, len(pairs), 8))]


class Open(unittest.TestCase):

    def test_one_path(self):
        papers = [paper(ROOT, MID), paper(MID, END)]
        told = search(store(), Bag(papers), ask())
        self.assertEqual(told, ("open", papers))
        self.assertIs(told.__class__, tuple)
        self.assertIs(told[1].__class__, list)

    def test_one_paper(self):
        papers = [paper(ROOT, END, steps=0)]
        self.assertEqual(search(store(steps=1), Bag(papers), ask()), ("open", papers))

    def test_eight_papers(self):
        keepers = [ROOT, *[((letter,), "k") for letter in "abcdefg"], END]
        line = [paper(keepers[at], keepers[at + 1]) for at in range(8)]
        self.assertEqual(search(store(), Bag(line), ask()), ("open", line))
        self.assertEqual(search(store(steps=7), Bag(line), ask())[0], "shut")

    def test_fewer_papers_first(self):
        long = [paper(ROOT, LOW, 0), paper(LOW, MID), paper(MID, END)]
        short = [paper(ROOT, MID, 9), paper(MID, END)]
        self.assertEqual(search(store(), Bag(long + short), ask()), ("open", short))
        self.assertEqual(search(store(), Bag([*long, *short, paper(ROOT, END, 99)]), ask()),
                         ("open", [paper(ROOT, END, 99)]))

    def test_of_several_the_least(self):
        papers = [paper(ROOT, MID, serial) for serial in (3, 10, 2)]
        ends = [paper(MID, END, serial) for serial in (7, 5, 6)]
        for number in range(5):
            bag = Bag(shuffled(papers + ends, number))
            self.assertEqual(search(store(), bag, ask()),
                             ("open", [paper(ROOT, MID, 2), paper(MID, END, 5)]))

    def test_the_order_is_that_of_the_first_paper_then_of_the_next(self):
        papers = [paper(ROOT, MID, 1), paper(MID, END, 9), paper(ROOT, LOW, 2), paper(LOW, END, 0)]
        self.assertEqual(search(store(), Bag(papers), ask()), ("open", papers[:2]))

    def test_the_least_first_paper_that_goes_on(self):
        no_end = Region.of([()], [END[0]])
        papers = [paper(ROOT, MID, 1, region=no_end), paper(ROOT, MID, 2, steps=0),
                  paper(ROOT, MID, 3, last=20), paper(ROOT, MID, 4, uses=["mail"]),
                  paper(ROOT, MID, 5, unruled_for=0, any_for=0), paper(ROOT, MID, 6)]
        self.assertEqual(search(store(), Bag([*papers, paper(MID, END)]), ask()),
                         ("open", [papers[5], paper(MID, END)]))

    def test_through_a_state_that_is_not_kept(self):
        narrow = paper(ROOT, MID, 1, steps=1, region=Region.under(END[0]), unruled_for=1)
        bag = Bag([narrow, paper(ROOT, MID, 2), paper(MID, END)])
        behind = [one for each in starts(store(), bag, ask())
                  for one in step(each, narrow, bag, ask())[1]]
        self.assertTrue(all(one not in table(store(), bag, ask()) for one in behind))
        self.assertEqual(search(store(), bag, ask()), ("open", [narrow, paper(MID, END)]))

    def test_through_states_that_are_not_kept_at_each_place(self):
        keepers = [ROOT, *[((letter,), "k") for letter in "abcd"], END]
        bars = [Region.of([()], [("x" * place,)]) for place in range(1, 6)]
        narrow = [paper(keepers[at], keepers[at + 1], 1, region=bars[at]) for at in range(5)]
        wide = [paper(keepers[at], keepers[at + 1], 2) for at in range(5)]
        self.assertEqual(search(store(), Bag(narrow + wide), ask()), ("open", narrow))

    def test_a_paper_at_two_places(self):
        ring = paper(ROOT, ROOT, any_rule=False, pairs=[("a", "b"), ("b", "c")])
        leave = paper(ROOT, END, 2, any_rule=False, pairs=[("c", "c")])
        asked = ask(rules=["a"])
        self.assertEqual(search(store(), Bag([ring, leave]), asked), ("open", [ring, ring, leave]))
        self.assertEqual(search(store(), Bag([ring, leave]), ask(rules=["b"])),
                         ("open", [ring, leave]))
        self.assertEqual(search(store(), Bag([ring, leave]), ask(rules=["d"]))[0], "shut")

    def test_a_ring_of_two_papers(self):
        there = paper(ROOT, MID, any_rule=False, pairs=[("a", "b"), ("c", "d")])
        back = paper(MID, ROOT, any_rule=False, pairs=[("b", "c"), ("d", "e")])
        leave = paper(MID, END, any_rule=False, pairs=[("d", "d")])
        self.assertEqual(search(store(), Bag([there, back, leave]), ask(rules=["a"])),
                         ("open", [there, back, there, leave]))

    def test_the_holder_of_an_anchor(self):
        self.assertEqual(search(store(), Bag([paper(ROOT, MID)]), ask(holder=ROOT))[0], "shut")
        ring = [paper(ROOT, MID), paper(MID, ROOT)]
        self.assertEqual(search(store(), Bag(ring), ask(holder=ROOT)), ("open", ring))

    def test_the_mark_of_the_holder(self):
        bag = Bag([paper(ROOT, (END[0], "x"))])
        self.assertEqual(search(store(), bag, ask())[0], "shut")
        self.assertEqual(search(store(), bag, ask(holder=(END[0], "x")))[0], "open")

    def test_strict(self):
        papers = [paper(ROOT, MID), paper(MID, END)]
        notices = [Notice(ROOT, 20, 40), Notice(MID, 30, 50)]
        for day, found in ((29, "shut"), (30, "open"), (40, "open"), (41, "shut")):
            self.assertEqual(search(store(), Bag(papers, notices), ask(day=day, strict=True))[0],
                             found)
        self.assertEqual(search(store(), Bag(papers), ask(strict=True))[0], "shut")
        self.assertEqual(search(store(uses=["web"]), Bag(papers, notices), ask(strict=True))[0],
                         "shut")


class Shut(unittest.TestCase):

    def test_nothing_at_all(self):
        self.assertEqual(search(Store(), Bag(), ask()), ("shut", []))
        self.assertEqual(search(Store(), Bag([paper(ROOT, END)]), ask()), ("shut", []))
        self.assertEqual(search(store(), Bag([paper(ROOT, END)]), ask(rules=[])), ("shut", []))
        self.assertEqual(search(store(steps=0), Bag([paper(ROOT, END)]), ask()), ("shut", []))
        self.assertEqual(search(store(uses=[]), Bag([paper(ROOT, END)]), ask()), ("shut", []))

    def test_the_starts_alone(self):
        told = search(store(steps=2, any_rule=False), Bag(), ask())
        self.assertEqual(told, ("shut", [State(ROOT, None, 2, None, None, None, True,
                                               Region.under(()))]))
        self.assertIs(told[1].__class__, list)

    def test_states_behind_steps(self):
        bag = Bag([paper(ROOT, MID, steps=3, any_rule=False), paper(MID, LOW, any_rule=False)])
        told = search(store(any_rule=False, steps=5, unruled_for=2), bag, ask())
        everywhere = Region.under(())
        self.assertEqual(told[1], [State(LOW, None, 2, 0, None, None, True, everywhere),
                                   State(MID, None, 3, 1, None, None, True, everywhere),
                                   State(ROOT, None, 5, 2, None, None, True, everywhere)])

    def test_states_with_left_0_are_not_kept(self):
        bag = Bag([paper(ROOT, MID, steps=0), paper(ROOT, LOW)])
        told = search(store(any_rule=False, steps=1), bag, ask())
        self.assertEqual([one.left for one in told[1]], [1])

    def test_states_below_others_are_not_kept(self):
        bag = Bag([paper(ROOT, ROOT), paper(ROOT, MID, 1, steps=2), paper(ROOT, MID, 2, steps=3),
                   paper(ROOT, MID, 3, steps=1, region=Region.under(("x",)))])
        told = search(store(any_rule=False), bag, ask())[1]
        self.assertEqual([(one.holder, one.left) for one in told], [(MID, 3), (ROOT, 8)])

    def test_ascending_by_rows(self):
        for seed, anchors, bag, asked in worlds.worlds(1200, 60):
            rows = [one.row() for one in table(anchors, bag, asked)]
            self.assertEqual(rows, sorted(set(rows)), seed)

    def test_the_table_of_a_question_and_of_another_holder(self):
        bag = Bag([paper(ROOT, MID), paper(MID, END)])
        states = table(store(), bag, ask())
        for holder in (END, MID, ROOT, (("x",), "y")):
            self.assertEqual(table(store(), bag, ask(holder=holder)), states)
        self.assertEqual(search(store(), bag, ask(holder=(("x",), "y"))), ("shut", states))
        self.assertEqual({one.holder for one in states}, {ROOT, MID, END})

    def test_the_last_of_nine_layers(self):
        keepers = [ROOT, *[((letter,), "k") for letter in "abcdefg"], END]
        line = [paper(keepers[at], keepers[at + 1]) for at in range(8)]
        found = table(store(any_rule=False), Bag(line), ask())
        self.assertEqual(sorted(one.left for one in found), [1, 2, 3, 4, 5, 6, 7, 8])


class Limit(unittest.TestCase):

    def check(self, call, number):
        """Check that a call raises TooMany with its limit."""
        with self.assertRaises(TooMany) as caught:
            call(number)
        self.assertEqual(caught.exception.limit, number)

    def test_one_state_fewer_than_a_layer_has(self):
        for seed, anchors, bag, asked in worlds.worlds(1300, 80):
            found = plain.layers(anchors, bag, asked)
            nowhere = asked.about((("no",), "one"))
            most = max(len(layer) for layer in found)
            for call in (lambda limit: search(anchors, bag, nowhere, limit=limit),
                         lambda limit: table(anchors, bag, asked, limit=limit)):
                if most > 1:
                    self.check(call, most - 1)
                    self.check(call, 1)
                call(max(most, 1))
                call(4000)

    def test_the_layers_up_to_the_one_that_leads_to_the_holder(self):
        raised = 0
        for seed, anchors, bag, asked in worlds.worlds(1400, 150):
            for holder in worlds.HOLDERS:
                question = asked.about(holder)
                told = search(anchors, bag, question, limit=4000)
                if told[0] == "open":
                    found = plain.layers(anchors, bag, asked)[:len(told[1])]
                    most = max(len(layer) for layer in found)
                    self.assertEqual(search(anchors, bag, question, limit=most), told)
                    if most > 1:
                        raised += 1
                        self.check(lambda limit: search(anchors, bag, question, limit=limit),
                                   most - 1)
        self.assertGreater(raised, 40)

    def test_later_layers_mean_nothing_to_an_answer(self):
        fan = [paper(ROOT, ((letter,), "k")) for letter in "abcdefgh"]
        bag, made = Bag([*fan, paper(ROOT, END)]), store(any_rule=False)
        self.assertEqual(search(made, bag, ask(), limit=1), ("open", [paper(ROOT, END)]))
        self.check(lambda limit: table(made, bag, ask(), limit=limit), 9)
        self.assertEqual(len(table(made, bag, ask(), limit=10)), 10)

    def test_states_that_are_not_kept_mean_nothing(self):
        several = [paper(ROOT, ROOT, serial, steps=serial) for serial in range(8)]
        self.assertEqual(len(table(store(any_rule=False), Bag(several), ask(), limit=1)), 1)

    def test_left_out_it_is_400(self):
        for many in (398, 399):
            bag = Bag(naming(many))
            self.assertEqual(len(bag.named()), many)
            for call in (search, table):
                if many == 398:
                    told = call(store(), bag, ask())
                    self.assertEqual(len(told[1] if call == search else told), 400)
                    continue
                with self.assertRaises(TooMany) as caught:
                    call(store(), bag, ask())
                self.assertEqual(caught.exception.limit, 400)
                self.assertEqual(call(store(), bag, ask(), limit=401),
                                 call(store(), bag, ask(), limit=4000))

    def test_it_is_told_by_keyword(self):
        for call in (search, table):
            with self.assertRaises(TypeError):
                call(store(), Bag(), ask(), 400)


class Tables(unittest.TestCase):

    BAG = Bag([paper(ROOT, MID, any_rule=False), paper(MID, LOW, any_rule=False, steps=0)])
    STORE = store(any_rule=False, steps=2)

    def answer(self, thing, asked=None):
        return is_table(self.STORE, self.BAG, asked or ask(), thing)

    def test_what_search_and_table_return(self):
        found = table(self.STORE, self.BAG, ask())
        self.assertEqual(len(found), 2)
        self.assertIs(self.answer(found), True)
        self.assertIs(self.answer(search(self.STORE, self.BAG, ask())[1]), True)
        self.assertIs(self.answer(found[::-1] + found), True)

    def test_the_table_of_a_question_that_is_open(self):
        for holder in (MID, LOW):
            self.assertIs(self.answer(table(self.STORE, self.BAG, ask()), ask(holder=holder)),
                          False)

    def test_a_state_left_out(self):
        found = table(self.STORE, self.BAG, ask())
        for at in range(len(found)):
            self.assertIs(self.answer(found[:at] + found[at + 1:]), False)
        self.assertIs(self.answer([]), False)

    def test_no_states_where_there_are_no_starts(self):
        self.assertIs(is_table(Store(), self.BAG, ask(), []), True)
        self.assertIs(is_table(store(steps=0), self.BAG, ask(), []), True)
        self.assertIs(is_table(self.STORE, self.BAG, ask(rules=[]), []), True)

    def test_greater_states_and_other_ones(self):
        found = table(self.STORE, self.BAG, ask())
        other = State((("x",), "y"), "a", 8, None, None, None, True, Region.under(()))
        self.assertIs(self.answer([*found, other]), True)
        greater = State(ROOT, None, 8, None, None, None, True, Region.under(()))
        self.assertIs(self.answer([*found, greater]), False)
        self.assertIs(self.answer([*found[:1], greater]), False)
        behind = State(MID, None, 7, None, None, None, True, Region.under(()))
        self.assertIs(self.answer([*found, greater, behind]), True)
        self.assertIs(self.answer([greater, behind]), True)

    def test_states_that_lead_to_the_holder(self):
        found = table(self.STORE, self.BAG, ask())
        keeper = (("far",), "f")
        bag = self.BAG | Bag([paper(keeper, END)])
        leading = State(keeper, None, 1, None, None, None, True, Region.under(()))
        self.assertIs(is_table(self.STORE, bag, ask(), found), True)
        self.assertIs(is_table(self.STORE, bag, ask(), [*found, leading]), False)
        for barred in (State(keeper, None, 0, None, None, None, True, Region.under(())),
                       State(keeper, None, 1, 0, None, None, True, Region.under(())),
                       State(keeper, None, 1, None, None, None, True, Region.under(("x",)))):
            self.assertIs(is_table(self.STORE, bag, ask(), [*found, barred]), True)

    def test_whether_a_state_is_listed_means_nothing_unless_the_question_is_strict(self):
        found, keeper = table(self.STORE, self.BAG, ask()), (("far",), "f")
        bag = self.BAG | Bag([paper(keeper, END)], [Notice(keeper, 0, 99), Notice(ROOT, 0, 99),
                                                    Notice(MID, 0, 99)])
        for listed, strict, answer in ((True, False, False), (False, False, False),
                                       (True, True, False), (False, True, True)):
            leading = State(keeper, None, 1, None, None, None, listed, Region.under(()))
            self.assertIs(is_table(self.STORE, bag, ask(strict=strict), [*found, leading]), answer)

    def test_states_with_left_0(self):
        found = table(self.STORE, self.BAG, ask())
        nothing = [State(holder, None, 0, None, None, None, True, Region.under(()))
                   for holder in (ROOT, MID, LOW, END)]
        self.assertIs(self.answer(found + nothing), True)
        self.assertIs(self.answer(nothing), False)
        end = paper(LOW, END)
        self.assertIs(is_table(self.STORE, self.BAG | Bag([end]), ask(), found + nothing), True)

    def test_starts_with_left_0_are_not_asked(self):
        both = Store([Anchor(ROOT, Limits(0, 99, steps=2, any_rule=False)),
                      Anchor(LOW, Limits(0, 99, steps=0, any_rule=False))])
        self.assertIs(is_table(both, self.BAG, ask(), table(self.STORE, self.BAG, ask())), True)

    def test_states_in_other_forms(self):
        # What means nothing in a state is still compared as it stands there.
        found = table(self.STORE, self.BAG, ask())
        for at, one in enumerate(found):
            for less in (State(one.holder, None, one.left, None, 3, None, True, one.region),
                         State(one.holder, None, one.left, None, None, 0, True, one.region),
                         State(one.holder, None, one.left, None, None, None, False, one.region)):
                self.assertIs(self.answer([*found[:at], less, *found[at + 1:]]), False)
                self.assertIs(self.answer([*found, less]), True)

    def test_regions_that_neither_store_nor_bag_know(self):
        found = table(self.STORE, self.BAG, ask())
        for barred, answer in ((("far", "off"), True), (("mid", "x"), True)):
            region = Region.of([()], [barred])
            other = State(LOW, None, 3, None, None, None, True, region)
            self.assertIs(self.answer([*found, other]), answer)
            lacking = [State(one.holder, None, one.left, None, None, None, True, region)
                       for one in found]
            self.assertIs(self.answer(lacking), False)

    def test_any_other_value(self):
        found = table(self.STORE, self.BAG, ask())
        for thing in [*EVERY_KIND, tuple(found), found[0], {0: found[0]}, [found], deep(25),
                      [*found, None], [*found, found[0].row()], [found[0].row(), *found],
                      [*found, ROOT], [*found, self.BAG], [*found, found], iter(found)]:
            self.assertIs(self.answer(thing), False, thing)
        self.assertIs(self.answer(found), True)

    def test_any_other_value_where_the_empty_list_is_one(self):
        for thing in EVERY_KIND:
            wanted = thing.__class__ is list and not thing
            self.assertIs(is_table(Store(), Bag(), ask(), thing), wanted, thing)

    def test_drawn_lists_of_states_against_the_plain_way(self):
        answers = []
        for seed, anchors, bag, asked in worlds.worlds(1500, 90):
            source = drawing(seed)
            found = table(anchors, bag, asked)
            lists = [found, [one for one in found if source.random() < 0.8],
                     [*found, *[self.drawn(source, one) for one in found]],
                     [self.drawn(source, one) for one in found]]
            for several in lists:
                for question in (asked, asked.about((("no",), "one"))):
                    answer = is_table(anchors, bag, question, several)
                    self.assertIs(answer, plain.is_table(anchors, bag, question, several), seed)
                    answers.append(answer)
        self.assertTrue(100 < answers.count(True) < len(answers) - 100)

    def drawn(self, source, one):
        """The State with one part drawn again."""
        parts = {"holder": source.choice(worlds.HOLDERS), "rule": source.choice([None, "", "d"]),
                 "left": source.randint(0, 8), "unruled": source.choice([None, 0, 1]),
                 "any_left": source.choice([None, 0, 1]), "maps_left": source.choice([None, 0, 1]),
                 "listed": source.random() < 0.5, "region": worlds.region(source, 0.5)}
        name = source.choice(list(parts))
        if name == "region" and parts["region"] is None:
            parts["region"] = Region.under(())
        names = list(parts)
        return State(*[parts[each] if each == name else getattr(one, each) for each in names])


class Drawn(unittest.TestCase):

    def test_answers_against_plain_following(self):
        found = {"open": 0, "shut": 0}
        for seed, anchors, bag, asked in worlds.worlds(1600, 250):
            word, told = search(anchors, bag, asked)
            held = plain.paths(anchors, bag, asked, 4)
            layers = plain.layers(anchors, bag, asked)
            found[word] += 1
            self.assertEqual(table(anchors, bag, asked), layers[-1], seed)
            self.assertLessEqual(len(layers), 9)
            if word == "open":
                self.assertIs(holds(anchors, bag, asked, told), True)
                self.assertIs(plain.holds(anchors, bag, asked, told), True, seed)
                self.assertEqual([told] if len(told) <= 4 else [], held[:1], seed)
            else:
                self.assertEqual((held, told), ([], layers[-1]), seed)
                self.assertIs(is_table(anchors, bag, asked, told), True)
        self.assertGreater(min(found.values()), 30)

    def test_longer_paths_in_worlds_with_more_papers(self):
        lengths = []
        for seed, anchors, bag, asked in worlds.worlds(1900, 250, 18):
            word, told = search(anchors, bag, asked)
            if word == "open":
                lengths.append(len(told))
                wanted = plain.paths(anchors, bag, asked, len(told)) if len(told) < 4 else [told]
                self.assertEqual(told, wanted[0], seed)
                self.assertIs(plain.holds(anchors, bag, asked, told), True, seed)
        self.assertTrue({1, 2, 3} <= set(lengths))

    def test_paths_through_states_that_are_not_kept(self):
        unkept = 0
        for seed, anchors, bag, asked in worlds.worlds(380, 120, 14):
            word, told = search(anchors, bag, asked)
            if word == "open" and len(told) == 2:
                self.assertEqual(told, plain.paths(anchors, bag, asked, 2)[0])
                begun = [one for one in starts(anchors, bag, asked) if one.left > 0]
                layer = plain.layers(anchors, bag, asked)[1]
                behind = [step(one, told[0], bag, asked)[1] for one in maximal(begun)
                          if step(one, told[0], bag, asked)[0] == "on"]
                unkept += not any(one in layer for states in behind for one in states)
        self.assertGreater(unkept, 2)


class Copies(unittest.TestCase):

    def test_order_and_repetition_mean_nothing(self):
        for seed, anchors, bag, asked in worlds.worlds(2200, 40):
            told, states = search(anchors, bag, asked), table(anchors, bag, asked)
            for number in range(2):
                again = Store(shuffled(anchors.anchors() * 2, number))
                other = Bag(shuffled(bag.papers() * 2, number), shuffled(bag.notices() * 2, number))
                self.assertEqual(search(again, other, asked), told)
                self.assertEqual(table(again, other, asked), states)

    def test_lists_that_are_handed_in_or_returned_and_changed(self):
        for seed, anchors, bag, asked in worlds.worlds(2300, 40):
            papers, kept = bag.papers(), anchors.anchors()
            other, again = Bag(papers, bag.notices()), Store(kept)
            told, states = search(again, other, asked), table(again, other, asked)
            papers.clear()
            kept.clear()
            copied, rows = list(told[1]), list(states)
            told[1].clear()
            states.clear()
            self.assertEqual(search(again, other, asked), (told[0], copied))
            self.assertEqual(table(again, other, asked), rows)
            self.assertEqual((again, other), (anchors, bag))

    def test_a_table_that_is_looked_at_stays_as_it_is(self):
        for seed, anchors, bag, asked in worlds.worlds(2400, 20):
            states = table(anchors, bag, asked)
            copied = list(states)
            answers = [is_table(anchors, bag, asked, states) for _ in range(2)]
            self.assertEqual(answers[0], answers[1])
            self.assertEqual(states, copied)


if __name__ == "__main__":
    unittest.main()
