"""The keeper of views: questions kept under names, each with its answer, over one store."""

from keptnest.asks.answers import answer
from keptnest.asks.kinds import kind_of
from keptnest.asks.questions import question_shown
from keptnest.changes.differences import changed
from keptnest.changes.views import answer_of_difference, refuse_unfit
from keptnest.data.values import added
from keptnest.errors import NoKeep, NoKind, NoTurning
from keptnest.turns.rules import led


class Keeper:
    # What is kept under a name is its question and the answer.
    def __init__(self, stock, store):
        self.stock = dict(stock)
        self.rows = dict(store)
        self.kept = {}

    def keep(self, name, question):
        self.refuse_kept(name)
        refuse_no_bag(question, self.stock)
        self.kept[name] = (question, answer(question, {}, self.rows))

    def offer(self, name, elder, chain, question):
        self.refuse_kept(name)
        # What a chain leads to is of the elder's kind, so that this need not be asked.
        refuse_not_led(self.question_under(elder), chain, question)
        self.kept[name] = (question, self.told(elder))

    def throw(self, name):
        self.refuse_not_kept(name)
        self.kept.pop(name)

    def change(self, change):
        self.parcel([change])

    def parcel(self, changes):
        # Which changes fit hangs on the stock alone, so all are judged ahead of the first that is done.
        for change in changes:
            refuse_unfit(change, self.stock)
        for change in changes:
            self.bring_on(change)

    def bring_on(self, change):
        brought = {}
        for name, pair in self.kept.items():
            more = answer_of_difference(pair[0], self.stock, self.rows, change)
            brought[name] = (pair[0], added(pair[1], more))
        self.kept = brought
        self.rows = changed(self.rows, change)

    def told(self, name):
        self.refuse_not_kept(name)
        return self.kept[name][1]

    def question_under(self, name):
        self.refuse_not_kept(name)
        return self.kept[name][0]

    def names(self):
        return sorted(self.kept)

    def store(self):
        return dict(self.rows)

    def refuse_kept(self, name):
        if name in self.kept:
            raise NoKeep("the name is kept already")

    def refuse_not_kept(self, name):
        if name not in self.kept:
            raise NoKeep("the name is not kept")


def refuse_no_bag(question, stock):
    try:
        kind = kind_of(question, {}, stock)
    except NoKind as fault:
        raise NoKeep("a question without a kind is not kept") from fault
    if kind[0] != "bag":
        raise NoKeep("a question that is no bag's is not kept")


def refuse_not_led(elder, chain, question):
    try:
        told = led(elder, chain)
    except NoTurning as fault:
        raise NoKeep("the chain leads nowhere") from fault
    # Held against one another as texts, as questions may lie deeper than Python compares tuples.
    if question_shown(told) != question_shown(question):
        raise NoKeep("the chain leads to another question")
