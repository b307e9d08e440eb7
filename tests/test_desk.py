"""Point 104: the lines that a Desk takes."""

import unittest

from vouchchains.bags import Bag, Question, Store
from vouchchains.books import Book
from vouchchains.desk import Desk, answered
from vouchchains.errors import Broken, NoCommand, NoText, Nothing, Taken, TooMany, Unknown
from vouchchains.fewest import shut
from vouchchains.further import opened
from vouchchains.judging import judged
from vouchchains.known import Archive
from vouchchains.limits import Limits
from vouchchains.notation import (read_region, show, show_holder, show_log, show_region,
                                  show_words)
from vouchchains.papers import Notice, Paper
from vouchchains.searching import search
from vouchchains.spans import next_turn, open_days
from kinds import EVERY_KIND, Other, deep, drawing
from makes import END, LOW, MID, ROOT, anchor, error, paper
import worlds

FREE = "8 +. all none any all all all"
TRUST = f"trust root:r 0 99 {FREE}"
FIRST = f"arrive 3 paper root:r 1 mid:m 0 50 {FREE}"
LAST = f"arrive 20 paper mid:m 1 mid.web:w 10 40 {FREE}"
ASK = "mid.web:w web 30 all soft"
BIG = 10 ** 40


def desk(*lines):
    """A Desk that has done some lines."""
    made = Desk()
    for line in lines:
        made.execute(line)
    return made


def asked_as(question):
    """The text of a Question."""
    return " ".join([show_holder(question.holder), question.use, str(question.day),
                     show_words(question.rules), "strict" if question.strict else "soft"])


def unit_text(one):
    return f"{show_holder(one.issuer)}#{one.serial}"


def filled(store, items):
    """A Desk with a store and an archive, and the text of its log."""
    deeds = [("trust", one) for one in store.anchors()] + [("arrive", *item) for item in items]
    lines = [show(deed) for deed in deeds]
    return (desk(*lines), "".join(line + "\n" for line in lines))


class Deeds(unittest.TestCase):

    def test_each_deed(self):
        one = desk()
        for line in (TRUST, FIRST, LAST, "arrive 4 notice root:r 3 9 1@7", "renew 5 root:r#1 7 20 40",
                     "back 6 root:r#7 30", f"distrust root:r 0 99 {FREE}"):
            self.assertEqual(one.execute(line), "ok")

    def test_undo_redo_and_log(self):
        one = desk(TRUST, FIRST)
        self.assertEqual(one.execute("log"), f"{TRUST}\n{FIRST}\n")
        self.assertEqual(one.execute("undo"), FIRST)
        self.assertEqual(one.execute("log"), f"{TRUST}\n")
        self.assertEqual(one.execute("undo"), TRUST)
        self.assertEqual(one.execute("log"), "")
        self.assertIs(error(one.execute, "undo").__class__, Nothing)
        self.assertEqual([one.execute("redo"), one.execute("redo")], [TRUST, FIRST])
        self.assertIs(error(one.execute, "redo").__class__, Nothing)

    def test_errors_of_the_book(self):
        one = desk(TRUST, FIRST)
        for line, kind, thing in ((TRUST, Taken, anchor()), (FIRST, Taken, paper(ROOT, MID, last=50)),
                                  (f"distrust mid:m 0 99 {FREE}", Unknown, anchor(MID)),
                                  ("renew 3 mid:m#1 2 3 4", Unknown, (MID, 1))):
            found = error(one.execute, line)
            self.assertIs(found.__class__, kind)
            self.assertEqual(found.thing, thing)
        for at in range(5):
            one.execute(f"trust root:r 0 {at} {FREE}")
        self.assertEqual(error(one.execute, f"trust root:r 0 9 {FREE}").limit, 6)
        self.assertEqual(one.execute("log").count("\n"), 7)

    def test_a_hundred_deeds(self):
        one = desk(*[TRUST, "dis" + TRUST] * 50)
        self.assertEqual(error(one.execute, TRUST).limit, 100)
        self.assertEqual(one.execute("undo"), "dis" + TRUST)

    def test_desks_have_their_own_books(self):
        one, other = desk(TRUST), desk()
        self.assertEqual([one.execute("log"), other.execute("log")], [TRUST + "\n", ""])


class Asking(unittest.TestCase):

    DESK = [TRUST, FIRST, LAST]

    def test_ask(self):
        one = desk(*self.DESK)
        self.assertEqual(one.execute(f"ask {ASK}"), "open root:r#1 mid:m#1")
        self.assertEqual(one.execute("ask mid:m web 50 all soft"), "open root:r#1")
        self.assertEqual(one.execute("ask mid:m web 51 all soft"), "shut")
        self.assertEqual(one.execute("ask mid.web:w web 41 all soft"), "shut")
        self.assertEqual(desk().execute(f"ask {ASK}"), "shut")

    def test_rules_and_modes(self):
        named = "0 99 8 +. all a>b,b>b named all all all"
        one = desk(TRUST, f"arrive 3 paper root:r 1 mid:m {named}", "arrive 3 notice root:r 20 30 none")
        for rules, answer in (("all", "open root:r#1"), ("a", "open root:r#1"), ("b", "open root:r#1"),
                              ("c", "shut"), ("none", "shut"), ("a,c", "open root:r#1"), ("=all", "shut"),
                              ("=none", "shut"), ("all,none", "shut")):
            self.assertEqual(one.execute(f"ask mid:m web 25 {rules} soft"), answer)
            self.assertEqual(one.execute(f"ask mid:m web 25 {rules} strict"), answer)
            self.assertEqual(one.execute(f"ask mid:m web 31 {rules} strict"), "shut")

    def test_the_words_all_and_none_as_a_use(self):
        one = desk(TRUST, f"arrive 0 paper root:r 1 a:k 0 50 8 +. =all none any all all all",
                   f"arrive 0 paper root:r 2 b:k 0 50 8 +. =none none any all all all",
                   f"arrive 0 paper root:r 3 c:k 0 50 8 +. all none any all all all")
        self.assertEqual([one.execute(f"ask {holder}:k {use} 5 all soft")
                          for holder in "abc" for use in ("all", "none", "web")],
                         ["open root:r#1", "shut", "shut", "shut", "open root:r#2", "shut",
                          "open root:r#3", "open root:r#3", "open root:r#3"])
        self.assertEqual(one.execute("opened root:r all 5 all soft"), "+.")
        self.assertIs(error(one.execute, "ask a:k =all 5 all soft").__class__, NoCommand)

    def test_then(self):
        one = desk(*self.DESK)
        self.assertEqual([one.execute(f"then mid.web:w web {day} all soft") for day in (19, 20, 40, 41)],
                         ["shut", "open root:r#1 mid:m#1", "open root:r#1 mid:m#1", "shut"])
        self.assertEqual([one.execute(f"then mid:m web {day} all soft") for day in (2, 3)],
                         ["shut", "open root:r#1"])
        self.assertEqual(one.execute("ask mid:m web 2 all soft"), "open root:r#1")

    def test_days(self):
        one = desk(*self.DESK)
        self.assertEqual(one.execute("days mid.web:w web 99 all soft"), "10-40")
        one.execute(f"arrive 5 paper mid:m 2 mid.web:w 45 45 {FREE}")
        self.assertEqual(one.execute("days mid.web:w web 0 all soft"), "10-40,45-45")
        self.assertEqual(one.execute("days mid.web:w web 0 all strict"), "none")
        self.assertEqual(one.execute("days low:l web 0 all soft"), "none")

    def test_turn(self):
        one = desk(*self.DESK)
        self.assertEqual([one.execute(f"turn mid.web:w web {day} all soft") for day in (0, 9, 10, 40, 41)],
                         ["10", "10", "41", "41", "none"])

    def test_judge(self):
        one = desk(*self.DESK, f"trust mid:m 0 99 {FREE}", f"trust root:r 0 20 {FREE}")
        self.assertEqual(one.execute(f"judge {ASK} root:r#1 mid:m#1"),
                         "mid:m 0 issuer; root:r 0 day; root:r 2 holds")
        self.assertEqual(one.execute(f"judge {ASK} mid:m#1"), "mid:m 1 holds; root:r 0 issuer; root:r 0 issuer")
        self.assertEqual(one.execute(f"judge {ASK} root:r#1"),
                         "mid:m 0 issuer; root:r 0 day; root:r 1 holder")
        self.assertEqual(one.execute(f"judge {ASK} root:r#1 root:r#1"),
                         "mid:m 0 issuer; root:r 0 day; root:r 2 issuer")

    def test_judge_without_anchors(self):
        self.assertEqual(desk(FIRST).execute(f"judge {ASK} root:r#1"), "none")

    def test_judge_takes_the_least_paper_of_a_unit(self):
        one = desk(TRUST, f"arrive 9 paper root:r 1 mid:m 0 50 {FREE}",
                   f"arrive 9 paper root:r 1 low:l 0 50 {FREE}")
        self.assertEqual(one.execute("judge low:l web 30 all soft root:r#1"), "root:r 1 holds")
        self.assertEqual(one.execute("judge mid:m web 30 all soft root:r#1"), "root:r 1 holder")

    def test_judge_of_units_that_no_paper_has(self):
        one = desk(*self.DESK, "arrive 4 notice low:l 3 9 1@7", "back 4 mid:m#2 3")
        for units, unknown in (("root:r#2", (ROOT, 2)), ("root:r#1 mid:m#2 low:l#1", (MID, 2)),
                               ("low:l#1 root:r#9", (LOW, 1))):
            found = error(one.execute, f"judge {ASK} {units}")
            self.assertEqual((found.__class__, found.thing), (Unknown, unknown))
        self.assertIs(error(desk().execute, f"judge {ASK} root:r#1").__class__, Unknown)
        self.assertIs(error(desk().execute, f"judge {ASK} root:r#1 x").__class__, NoCommand)

    def test_shut(self):
        one = desk(*self.DESK)
        self.assertEqual(one.execute(f"shut {ASK}"), "mid:m#1")
        one.execute(f"arrive 5 paper mid:m 2 mid.web:w 0 50 {FREE}")
        self.assertEqual(one.execute(f"shut {ASK}"), "root:r#1")
        one.execute(f"arrive 5 paper root:r 2 mid:m 0 50 {FREE}")
        self.assertEqual(one.execute(f"shut {ASK}"), "mid:m#1 mid:m#2")
        self.assertEqual(one.execute("shut mid.web:w web 51 all soft"), "none")

    def test_opened(self):
        one = desk(TRUST, f"arrive 3 paper root:r 1 mid:m 0 50 8 +mid,-mid.old all none any all all all")
        self.assertEqual(one.execute("opened mid:m web 50 all soft"), "+mid,-mid.old")
        self.assertEqual(one.execute("opened mid:m web 51 all soft"), "none")
        self.assertEqual(one.execute("opened root:r web 51 all soft"), "+.")
        self.assertEqual(one.execute("opened root:r web 51 all strict"), "none")
        one.execute(f"arrive 3 paper root:r 2 mid:m 0 50 8 +a,+b.c all none any all all all")
        self.assertEqual(one.execute("opened mid:m web 50 all soft"), "+a,+b.c,+mid,-mid.old")

    def test_all_that_has_arrived(self):
        one = desk(TRUST, f"arrive 99 paper root:r 1 mid:m 0 50 {FREE}")
        self.assertEqual([one.execute(f"{word} mid:m web 5 all soft") for word in
                          ("ask", "then", "days", "turn", "shut", "opened")],
                         ["open root:r#1", "shut", "0-50", "51", "root:r#1", "+."])
        self.assertEqual(one.execute("judge mid:m web 5 all soft root:r#1"), "root:r 1 holds")

    def test_errors_of_the_query(self):
        lines = [TRUST, FIRST]
        for at, one in enumerate("abcdefghijklmnopqrstuvwxyz"):
            pairs = ",".join(f"{one}{two}>{one}{two}" for two in "abcdefgh")
            lines.append(f"arrive 0 paper low:l {at} low:l 0 99 8 +. all {pairs} any all all all")
        full = desk(*lines)
        for word in ("ask", "then", "days", "turn", "shut", "opened"):
            self.assertEqual(error(full.execute, f"{word} low:l web 30 all soft").limit, 400)
        self.assertEqual(full.execute("ask low:l web 30 a soft"), "shut")
        self.assertEqual(full.execute("ask mid:m web 30 all soft"), "open root:r#1")


class Wrong(unittest.TestCase):

    def check_no_command(self, *lines):
        one = desk(*Asking.DESK)
        for line in lines:
            self.assertIs(error(one.execute, line).__class__, NoCommand, line)
        self.assertEqual(one.execute("log").count("\n"), 3)

    def test_all_that_is_no_string(self):
        self.check_no_command(*[thing for thing in EVERY_KIND if thing.__class__ is not str],
                              Other(), deep(30), [0] * 19000, ["undo"], ("trust", anchor()), b"undo")

    def test_other_words(self):
        self.check_no_command("", " ", "\n", "help", "Undo", "undo ", " undo", "undo 1", "undo\n", "redo redo",
                              "log log", "log ", "asks", "ask", "deed", f"deed {TRUST}", "trust", "judge",
                              "answered", "show", f"paper root:r 1 mid:m 0 50 {FREE}",
                              f"Ask {ASK}", f"ask  {ASK}", f" ask {ASK}", f"ask {ASK} ", f"ask {ASK}\n",
                              f"ask {ASK} root:r#1", f"{TRUST}\n", f"{TRUST} ", f"{TRUST}\n{FIRST}",
                              "a" * 100000, " " * 50000, "ask " * 20000)

    def test_questions(self):
        parts = ASK.split(" ")
        wrong = [["", ".", "mid.web", "mid.web:", ":w", "mid.web:w#1", "mid:m:m", "MID:m", "all", "none"],
                 ["", "Web", "web,mail", "=all", "=none", "abcdefghi", "a1", "a.b", "30"],
                 ["", "-1", "030", "all", "none", str(10 ** 9 + 1), str(BIG), "3.0", "x", "3,4", "00"],
                 ["", "b,a", "a,a", "=a", "All", "a,", "1", "none,all", "abcdefghi"],
                 ["", "Soft", "hard", "True", "all", "softly", "strict,soft"]]
        for word in ("ask", "then", "days", "turn", "shut", "opened"):
            for at, several in enumerate(wrong):
                for thing in several:
                    line = " ".join([word, *parts[:at], thing, *parts[at + 1:]])
                    self.check_no_command(line)
                self.check_no_command(" ".join([word, *parts[:at], *parts[at + 1:]]),
                                      " ".join([word, *parts[:at], "", *parts[at:]]))
        for at, several in enumerate(wrong):
            self.check_no_command(*[" ".join(["judge", *parts[:at], thing, *parts[at + 1:], "root:r#1"])
                                    for thing in several])

    def test_judge(self):
        self.check_no_command(f"judge {ASK}", f"judge {ASK} ", f"judge {ASK} root:r", f"judge {ASK} root:r#",
                              f"judge {ASK} root:r#01", f"judge {ASK} root:r#1 ", f"judge {ASK}  root:r#1",
                              f"judge {ASK} root:r#1,mid:m#1", f"judge {ASK} root:r#{BIG}",
                              f"judge {ASK} root:r#1 x", "judge root:r#1", f"judge root:r#1 {ASK}",
                              f"judge {ASK} low:l#9 root:r#-1")

    def test_integers_of_more_than_forty_digits(self):
        self.check_no_command(f"back 1 root:r#{BIG} 3", f"ask a:k web {BIG} all soft",
                              f"arrive 1 paper root:r {BIG} mid:m 0 50 {FREE}",
                              f"judge {ASK} root:r#{BIG} low:l#1")
        self.assertEqual(desk().execute(f"back 1 root:r#{BIG - 1} 3"), "ok")

    def test_deeds(self):
        self.check_no_command("trust root:r", "trust root:r 0 99", f"trust root:r 00 99 {FREE}",
                              f"arrive 3 anchor root:r 0 99 {FREE}", "back 1 root:r 3", "renew 1 root:r#1 2 3",
                              f"trust root:r 0 99 8 +.,+a all none any all all all")

    def test_no_command_comes_before_unknown(self):
        one = desk(*Asking.DESK)
        self.assertIs(error(one.execute, f"judge {ASK} low:l#1 low").__class__, NoCommand)
        self.assertIs(error(one.execute, f"judge {ASK} low:l#1 root:r#1").__class__, Unknown)


class Answered(unittest.TestCase):

    LOG = f"{TRUST}\n{FIRST}\n{LAST}\n"

    def test_as_a_desk_whose_book_is_read_from_the_text(self):
        for line, answer in ((f"ask {ASK}", "open root:r#1 mid:m#1"), ("log", self.LOG), ("undo", LAST),
                             (f"days {ASK}", "10-40"), (f"judge {ASK} mid:m#1", "root:r 0 issuer"),
                             (f"trust mid:m 0 99 {FREE}", "ok"), (f"shut {ASK}", "mid:m#1")):
            self.assertEqual(answered(self.LOG, line), answer)
        self.assertEqual(answered("", "log"), "")

    def test_nothing_is_kept(self):
        self.assertEqual(answered(self.LOG, f"trust mid:m 0 99 {FREE}"), "ok")
        self.assertEqual(answered(self.LOG, "undo"), LAST)
        self.assertEqual(answered(self.LOG, "undo"), LAST)
        self.assertEqual(answered(self.LOG, "log"), self.LOG)
        self.assertIs(error(answered, self.LOG, "redo").__class__, Nothing)

    def test_errors_of_the_log_come_first(self):
        for text, kind, at in ((None, NoText, None), (3, NoText, None), (Book(), NoText, None),
                               ("x", Broken, 0), (TRUST, Broken, 0), (self.LOG + TRUST, Broken, 3),
                               (f"{TRUST}\n{TRUST}\n", Broken, 1), ("\n", Broken, 0)):
            for line in ("log", None, "x", f"judge {ASK} low:l#1", TRUST):
                found = error(answered, text, line)
                self.assertIs(found.__class__, kind)
                if at is not None:
                    self.assertEqual(found.at, at)
        for thing in EVERY_KIND:
            if thing.__class__ is not str:
                self.assertIs(error(answered, thing, "log").__class__, NoText)
                self.assertIs(error(answered, self.LOG, thing).__class__, NoCommand)

    def test_errors_of_the_desk(self):
        self.assertIs(error(answered, self.LOG, TRUST).__class__, Taken)
        self.assertIs(error(answered, "", "undo").__class__, Nothing)
        self.assertIs(error(answered, self.LOG, f"judge {ASK} low:l#1").__class__, Unknown)
        self.assertEqual(error(answered, f"{TRUST}\ndis{TRUST}\n" * 50, TRUST).limit, 100)


class Drawn(unittest.TestCase):

    def drawn(self, first, many):
        for seed, store, bag, asked in worlds.worlds(first, many):
            source = drawing(seed)
            items = [(source.choice([0, 0, 2, 5, 8]), one) for one in [*bag.papers(), *bag.notices()]]
            yield (seed, source, store, items, asked.about(source.choice(bag.papers()).holder))

    def test_each_query_as_its_function(self):
        opens = 0
        for seed, source, store, items, asked in self.drawn(0, 90):
            one, log = filled(store, items)
            archive, text = Archive(items), asked_as(asked)
            whole = archive.whole()
            wanted = {"ask": self.path(store, whole, asked),
                      "then": self.path(store, archive.bag(asked.day), asked),
                      "days": ",".join(f"{first}-{last}" for first, last in
                                       open_days(store, whole, asked).spans()) or "none",
                      "turn": str(next_turn(store, whole, asked) or "none"),
                      "shut": " ".join(f"{show_holder(issuer)}#{serial}" for issuer, serial in
                                       shut(store, whole, [asked])[1]) or "none",
                      "opened": show_region(opened(store, whole, asked.holder, asked.use, asked.day,
                                                   asked.rules, asked.strict))}
            for word, answer in wanted.items():
                self.assertEqual(one.execute(f"{word} {text}"), answer, (seed, word))
                self.assertEqual(answered(log, f"{word} {text}"), answer)
            opens += wanted["ask"] != "shut"
            path = self.least(whole, source)
            line = " ".join(["judge", text, *[unit_text(paper) for paper in path]])
            self.assertEqual(one.execute(line), "; ".join(
                f"{show_holder(root.holder)} {place} {word}"
                for root, place, word in judged(store, whole, asked, path)) or "none", seed)
            self.assertEqual(one.execute("log"), log)
        self.assertGreater(opens, 15)

    def least(self, bag, source):
        """Some papers of a bag, each the least one of its unit."""
        chosen = [source.choice(bag.papers()) for _ in range(source.randint(1, 4))]
        return [next(one for one in bag.papers() if unit_text(one) == unit_text(paper))
                for paper in chosen]

    def path(self, store, bag, asked):
        word, path = search(store, bag, asked)
        return " ".join([word, *[unit_text(one) for one in path]]) if word == "open" else word

    def test_queries_change_nothing(self):
        for seed, source, store, items, asked in self.drawn(200, 10):
            one, log = filled(store, items)
            one.execute("undo")
            lines = [f"{word} {asked_as(asked)}" for word in ("ask", "then", "days", "turn", "shut", "opened")]
            first = [one.execute(line) for line in lines]
            self.assertEqual([one.execute(line) for line in lines], first)
            one.execute("redo")
            self.assertEqual(one.execute("log"), log)

    def test_the_log_is_that_of_its_book(self):
        book = Book()
        for deed in (("trust", anchor()), ("arrive", 3, paper(ROOT, END))):
            book.do(deed)
        one = desk(*show_log(book).splitlines())
        self.assertEqual(one.execute("log"), show_log(book))
        self.assertEqual(read_region(one.execute("opened root:r web 5 all soft")).rows(), [((), True)])
        self.assertEqual(search(Store([anchor()]), Bag([paper(ROOT, END)]), Question(END, "web", 5))[0],
                         one.execute("ask mid.web:w web 5 all soft").split(" ")[0])

    def test_too_many_papers(self):
        one = desk(*[f"arrive {day} paper root:r 1 mid:m 0 50 {FREE}" for day in range(40)])
        found = error(one.execute, f"arrive 40 paper root:r 1 mid:m 0 50 {FREE}")
        self.assertEqual((found.__class__, found.limit), (TooMany, 40))
        self.assertEqual(show(Notice(ROOT, 3, 3)), "notice root:r 3 3 none")
        self.assertEqual(show(Paper(ROOT, 1, MID, Limits(0, 50, steps=8))),
                         f"paper root:r 1 mid:m 0 50 {FREE}")


if __name__ == "__main__":
    unittest.main()
