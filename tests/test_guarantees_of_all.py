"""Guarantees 6 to 16 over the whole program: drawn worlds as logs of Books, asked at Desks."""

import itertools
import unittest

from vouchchains.bags import Bag, Store
from vouchchains.books import Book
from vouchchains.desk import answered
from vouchchains.further import opened
from vouchchains.judging import common
from vouchchains.limits import Limits
from vouchchains.notation import read_log, read_region, show, show_holder, show_log, show_words
from vouchchains.papers import Notice, Paper
from vouchchains.pieces import Piece
from vouchchains.pledges import Pledge, issued, opens
from vouchchains.regions import Region
from vouchchains.searching import is_table, search
from vouchchains.spans import breaks
from vouchchains.stores import apart, lets_all
from kinds import drawing
from renaming import Words
import plain
import worlds


def line(word, question, *units):
    return " ".join([word, show_holder(question.holder), question.use, str(question.day),
                     show_words(question.rules), "strict" if question.strict else "soft", *units])


def ask(book, question):
    """Whether a question is open, as a Desk tells it."""
    return answered(show_log(book), line("ask", question)) != "shut"


def made(store, items):
    """The Book with a store and what arrives when, by way of the text of its log."""
    book = Book()
    for deed in [*[("trust", one) for one in store.anchors()], *[("arrive", *one) for one in items]]:
        book.do(deed)
    return read_log(show_log(book))


def unit_of(paper):
    return (paper.issuer, paper.serial)


def text_of(unit):
    return f"{show_holder(unit[0])}#{unit[1]}"


def drawn(first, many, most_papers=7):
    """(seed, source, book, question): Books of drawn worlds, each asked for a bound holder."""
    for seed, store, bag, asked in worlds.worlds(first, many, most_papers):
        source = drawing(seed)
        items = [(source.choice([0, 0, 0, 2, 5]), one) for one in [*bag.papers(), *bag.notices()]]
        yield (seed, source, made(store, items), asked.about(source.choice(bag.papers()).holder))


class Meets(unittest.TestCase):

    def test_a_path_and_its_pieces(self):
        held = 0
        for seed, source, book, asked in drawn(0, 150):
            whole = book.archive().whole()
            word, path = search(book.store(), whole, asked)
            # In a piece, no paper is back, and no question is strict.
            if word == "shut" or asked.strict:
                continue
            answer = answered(show_log(book), line("judge", asked, *[text_of(unit_of(one)) for one in path]))
            words = [row.split(" ")[2] for row in answer.split("; ")]
            least = [min([one for one in whole.papers() if unit_of(one) == unit_of(paper)],
                         key=lambda one: one.row()) for paper in path]
            if least != path:
                continue
            held += 1
            for at in range(len(path)):
                pieces = [Piece(part) for part in (path[:at], path[at:]) if part]
                joined = pieces[0] + pieces[1] if len(pieces) == 2 else pieces[0]
                self.assertEqual(joined, Piece(path))
                self.assertEqual([joined.fits(one, asked) for one in book.store().anchors()],
                                 [one == "holds" for one in words], seed)
            self.assertEqual(common(path)[:3], common(path[::-1])[:3])
        self.assertGreater(held, 25)


class MoreAndLess(unittest.TestCase):

    def test_deeds_that_shut_nothing_and_those_that_open_nothing(self):
        answers = []
        for seed, source, book, asked in drawn(200, 130):
            before = ask(book, asked)
            answers.append(before)
            day = source.randint(0, 9)
            unit = unit_of(source.choice(book.archive().whole().papers()))
            for deed in (("trust", worlds.anchor(source, 0.8)),
                         ("arrive", day, worlds.paper(source, 0.8)),
                         ("arrive", day, Notice(source.choice(worlds.HOLDERS), day, 9))):
                if before:
                    self.assertTrue(ask(book.tried([deed]), asked), seed)
            if not before:
                back = Notice(unit[0], 5, 4, [(unit[1], day)])
                self.assertFalse(ask(book.tried([("arrive", day, back)]), asked), seed)
                self.assertFalse(ask(book.tried([("distrust", book.store().anchors()[0])]), asked))
        self.assertGreater(answers.count(True), 20)


class PathOrTable(unittest.TestCase):

    def test_what_is_not_open_has_a_table(self):
        for seed, source, book, asked in drawn(400, 80):
            store, whole = book.store(), book.archive().whole()
            word, told = search(store, whole, asked)
            self.assertEqual(word == "open", ask(book, asked), seed)
            self.assertEqual(word == "shut", is_table(store, whole, asked, told), seed)
            if word == "shut":
                self.assertEqual(plain.paths(store, whole, asked, 3), [], seed)


class DaysAndArrivals(unittest.TestCase):

    def test_answers_change_only_next_to_breaks(self):
        for seed, source, book, asked in drawn(600, 25):
            log, days = show_log(book), breaks(book.store(), book.archive().whole())
            spans = answered(log, line("days", asked))
            spans = [] if spans == "none" else [tuple(map(int, one.split("-"))) for one in spans.split(",")]
            for day in range(15):
                answer = ask(book, asked.on(day))
                self.assertEqual(answer, any(first <= day <= last for first, last in spans), seed)
                turn = answered(log, line("turn", asked.on(day)))
                if turn != "none":
                    self.assertIn(int(turn), days)
                    self.assertNotEqual(answer, ask(book, asked.on(int(turn))), seed)
                    self.assertEqual(answer, ask(book, asked.on(int(turn) - 1)), seed)

    def test_then_and_now(self):
        found = 0
        for seed, store, bag, asked in worlds.worlds(700, 120, 7):
            source = drawing(seed)
            asked = asked.about(source.choice(bag.papers()).holder)
            if asked.strict:
                continue
            items = [(source.randint(0, one.limits.first), one) for one in bag.papers()]
            items += [(source.randint(0, 12), one) for one in bag.notices()]
            book = made(store, items)
            self.assertEqual(book.archive().late(), [])
            for day in range(0, 13, 3):
                if ask(book, asked.on(day)):
                    found += 1
                    self.assertNotEqual(answered(show_log(book), line("then", asked.on(day))), "shut", seed)
        self.assertGreater(found, 40)


class Shutting(unittest.TestCase):

    def test_taking_the_units_back_shuts_and_fewer_do_not(self):
        sizes = []
        for seed, source, book, asked in drawn(900, 140):
            answer = answered(show_log(book), line("shut", asked))
            units = sorted({unit_of(one) for one in book.archive().whole().papers()})
            chosen = [one for one in units if text_of(one) in answer.split(" ")]
            self.assertEqual(answer, " ".join(text_of(one) for one in chosen) or "none")
            sizes.append(len(chosen))
            for many in range(len(chosen) + 1):
                for several in itertools.combinations(units, many):
                    if many == len(chosen) and list(several) != chosen:
                        continue
                    deeds = [("arrive", 0, Notice(issuer, 5, 4, [(serial, 0)]))
                             for issuer, serial in several]
                    self.assertEqual(ask(book.tried(deeds), asked), many < len(chosen), seed)
        self.assertGreater(sizes.count(1), 15)


class Opening(unittest.TestCase):

    def test_anchors_never_work_together(self):
        for seed, source, book, asked in drawn(1100, 60):
            items = [deed for deed in book.log() if deed[0] == "arrive"]
            alone = []
            for one in book.store().anchors():
                single = Book().tried([("trust", one), *items])
                alone.append(ask(single, asked))
            self.assertEqual(ask(book, asked), any(alone), seed)


class OneMoreAndPledges(unittest.TestCase):

    def test_opened_against_papers_that_arrive(self):
        found = []
        for seed, source, book, asked in drawn(1300, 60):
            keeper = source.choice(worlds.HOLDERS[:3])
            region = read_region(answered(show_log(book), line("opened", asked.about(keeper))))
            pairs = [(rule, rule) for rule in [*worlds.RULES, "fresh"]]
            for name in [(), ("a",), ("a", "b"), ("c",), ("z",), ("a", "b", "z")]:
                holder = (name, "fresh")
                one = Paper(keeper, 99, holder, Limits(0, 12, pairs=pairs))
                answer = ask(book.tried([("arrive", 0, one)]), asked.about(holder))
                found.append(answer)
                self.assertEqual(answer, name in region, seed)
        self.assertGreater(min(found.count(True), found.count(False)), 50)

    def test_papers_of_pledges_that_arrive(self):
        words = []
        for seed, source, book, asked in drawn(1500, 100, 5):
            store, whole = book.store(), book.archive().whole()
            several = [Pledge(source.choice(worlds.HOLDERS), source.choice(
                [source.choice(worlds.HOLDERS), Region.under(("a",))]), worlds.limits(source, 0.85))
                for _ in range(2)]
            deeds = [("arrive", 9, one) for one in issued(whole, several, asked.holder)]
            word = opens(store, whole, several, asked)[0]
            words.append(word)
            self.assertEqual(ask(book.tried(deeds), asked), word == "open", seed)
        self.assertGreater(words.count("open"), 15)


class Stores(unittest.TestCase):

    def test_what_one_store_lets_in_of_drawn_bags(self):
        parted = 0
        for seed, source, book, asked in drawn(1700, 120):
            one = book.store()
            other = Store([worlds.anchor(source, 0.85) for _ in range(2)])
            items = [deed for deed in book.log() if deed[0] == "arrive"]
            there = Book().tried([*[("trust", anchor) for anchor in other.anchors()], *items])
            mine, theirs = ask(book, asked), ask(there, asked)
            if mine and not theirs:
                parted += 1
                self.assertIs(lets_all(other, one), False, seed)
            if theirs and not mine:
                parted += 1
                self.assertIs(lets_all(one, other), False, seed)
            if mine != theirs:
                many = len(search(one if mine else other, book.archive().whole(), asked)[1])
                self.assertLessEqual(len(apart(one, other)[1]), many, seed)
            self.assertIs(lets_all(one | other, one), True)
        self.assertGreater(parted, 20)

    def test_the_bag_that_parts_two_stores_arrives(self):
        for seed, source, book, asked in drawn(1900, 60):
            one, other = book.store(), Store([worlds.anchor(source, 0.85) for _ in range(2)])
            case = apart(one, other)
            if case is not None:
                side, bag, question = case
                items = [(0, thing) for thing in [*bag.papers(), *bag.notices()]]
                answers = [ask(made(store, items), question) for store in (one, other)]
                self.assertEqual(answers, [side == 0, side == 1], seed)


class Names(unittest.TestCase):

    def test_other_names_in_the_same_order(self):
        for seed, source, book, asked in drawn(2100, 40):
            words = Words(seed, True)
            renamed = Book()
            for deed in book.log():
                renamed.do(self.deed(words, deed))
            there = words.question(asked)
            again = [answered(show_log(renamed), line(word, there)) for word in
                     ("ask", "then", "shut", "days", "turn")]
            first = [answered(show_log(book), line(word, asked)) for word in
                     ("ask", "then", "shut", "days", "turn")]
            units = {text_of(unit_of(one)): text_of((words.holder(one.issuer), one.serial))
                     for one in book.archive().whole().papers()}
            self.assertEqual(again, [" ".join(units.get(part, part) for part in answer.split(" "))
                                     for answer in first], seed)
            region = read_region(answered(show_log(book), line("opened", asked)))
            self.assertEqual(read_region(answered(show_log(renamed), line("opened", there))),
                             words.region(region), seed)

    def deed(self, words, deed):
        if deed[0] == "trust":
            return ("trust", words.anchor(deed[1]))
        thing = deed[2]
        return ("arrive", deed[1], words.paper(thing) if thing.__class__ is Paper else words.notice(thing))

    def test_stores_with_other_names(self):
        for seed, store, bag, asked in worlds.worlds(2300, 60):
            words = Words(seed, False)
            other = Store([worlds.anchor(drawing(seed + 1), 0.85) for _ in range(2)])
            self.assertEqual(lets_all(words.store(store), words.store(other)), lets_all(store, other), seed)
            one, two = apart(store, other), apart(words.store(store), words.store(other))
            self.assertEqual(None if one is None else len(one[1]), None if two is None else len(two[1]))

    def test_papers_that_nothing_leads_to(self):
        lost = (("lost",), "l")
        for seed, source, book, asked in drawn(2400, 40):
            papers = [Paper(lost, 1, asked.holder, Limits(0, 12, steps=8, pairs=[("x", "y")])),
                      Paper(lost, 2, worlds.HOLDERS[0], Limits(0, 12, steps=8))]
            wider = book.tried([("arrive", 0, one) for one in papers])
            for word in ("ask", "then", "days", "turn", "shut", "opened"):
                self.assertEqual(answered(show_log(wider), line(word, asked)),
                                 answered(show_log(book), line(word, asked)), seed)
            self.assertEqual(opened(book.store(), book.archive().whole() | Bag(papers), asked.holder,
                                    asked.use, asked.day),
                             opened(book.store(), book.archive().whole(), asked.holder, asked.use,
                                    asked.day))
            self.assertEqual(show(("arrive", 0, papers[1])), wider.log() and show(wider.log()[-1]))


if __name__ == "__main__":
    unittest.main()
