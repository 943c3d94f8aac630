"""A view: a question whose answer is kept and brought on by differences."""

from keptnest.asks.answers import answer
from keptnest.asks.questions import tables
from keptnest.changes.differences import changed, difference
from keptnest.data.kinds import is_of
from keptnest.data.signs import new_name
from keptnest.data.values import added, is_value
from keptnest.errors import NoChange


def refuse_unfit(change, stock):
    for name, bag in change.items():
        if name not in stock:
            raise NoChange("there is no such table")
        if not (is_value(bag) and is_of(bag, ("bag", stock[name]))):
            raise NoChange(f"what changes {name} is no bag of its rows")


def names_of_changes(change, taken):
    names = {}
    for table in change:
        names[table] = new_name(taken + list(names.values()))
    return names


def answer_of_difference(question, stock, store, change):
    names = names_of_changes(change, list(stock) + tables(question))
    told = difference(question, names, {}, stock)
    put_in = dict(store)
    put_in.update(dict([(names[table], bag) for table, bag in change.items()]))
    return answer(told, {}, put_in)


class View:
    def __init__(self, question, stock, store):
        self.question = question
        self.stock = dict(stock)
        self.rows = dict(store)
        self.kept = answer(question, {}, store)

    def answer(self):
        return self.kept

    def store(self):
        return dict(self.rows)

    def change(self, change):
        refuse_unfit(change, self.stock)
        more = answer_of_difference(self.question, self.stock, self.rows, change)
        self.kept = added(self.kept, more)
        self.rows = changed(self.rows, change)
        return more
