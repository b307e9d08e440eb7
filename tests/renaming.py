"""Other names, one to one, for what drawn worlds have, and limits with some parts changed."""

from vouchchains.bags import Bag, Question, Store
from vouchchains.limits import Limits
from vouchchains.papers import Anchor, Notice, Paper
from vouchchains.regions import Region
from vouchchains.states import State
from kinds import drawing, shuffled
import worlds

PARTS = ["first", "last", "steps", "region", "uses", "pairs", "any_rule", "unruled_for", "any_for",
         "maps_for"]


def limits_with(limits, **more):
    """The Limits with some parts changed."""
    parts = {**{name: getattr(limits, name) for name in PARTS}, **more}
    return Limits(parts.pop("first"), parts.pop("last"), **parts)


class Words:
    """Other names, one to one, for labels, marks, rules and uses."""

    def __init__(self, seed, ordered):
        fresh = ["bb", "cc", "dd", "ee", "ff", "pp", "qq", "web", "zz"]
        self.words = {}
        for kind, known in {"label": "abc", "mark": "klmr", "rule": worlds.RULES}.items():
            drawn = sorted(drawing(seed).sample(fresh, len(known)))
            self.words[kind] = dict(zip(known, drawn if ordered else shuffled(drawn, seed)))
        # The use lists keeps its name.
        uses = ["mm", "xx"] if ordered else ["zz", "aa"]
        self.words["use"] = {"lists": "lists", **dict(zip(["mail", "web"], uses))}

    def name(self, name):
        return tuple(self.words["label"][label] for label in name)

    def holder(self, holder):
        return (self.name(holder[0]), self.words["mark"][holder[1]])

    def region(self, region):
        return Region([(self.name(name), flag) for name, flag in region.rows()])

    def rule(self, rule):
        return rule if rule in (None, "") else self.words["rule"][rule]

    def several(self, kind, words):
        return None if words is None else [self.words[kind][word] for word in words]

    def limits(self, limits):
        pairs = [(self.rule(one), self.rule(other)) for one, other in limits.pairs]
        return limits_with(limits, region=self.region(limits.region), pairs=pairs,
                           uses=self.several("use", limits.uses))

    def paper(self, paper):
        return Paper(self.holder(paper.issuer), paper.serial, self.holder(paper.holder),
                     self.limits(paper.limits))

    def anchor(self, anchor):
        return Anchor(self.holder(anchor.holder), self.limits(anchor.limits))

    def notice(self, notice):
        return Notice(self.holder(notice.issuer), notice.day, notice.last, notice.entries)

    def state(self, state):
        return State(self.holder(state.holder), self.rule(state.rule), state.left, state.unruled,
                     state.any_left, state.maps_left, state.listed, self.region(state.region))

    def store(self, store):
        return Store([self.anchor(anchor) for anchor in store.anchors()])

    def bag(self, bag):
        return Bag([self.paper(paper) for paper in bag.papers()],
                   [self.notice(notice) for notice in bag.notices()])

    def question(self, question):
        return Question(self.holder(question.holder), self.words["use"][question.use],
                        question.day, self.several("rule", question.rules), question.strict)

    def path(self, path):
        return None if path is None else [self.paper(paper) for paper in path]
