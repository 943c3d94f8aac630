"""Differences: by how much the answer to a question changes, told as a question."""

from keptnest.asks.kinds import kind_of
from keptnest.asks.questions import tables, with_under
from keptnest.asks.walks import Walk, folded
from keptnest.data.values import added
from keptnest.errors import NoDifference, NoKind


def changed(store, change):
    told = dict(store)
    for name, bag in change.items():
        told[name] = added(store[name], bag)
    return told


def difference(question, names, kinds, stock):
    row_kind = kind_of_rows(question, kinds, stock)
    walk = Walk()
    walk.later(begin, question, names)
    told = walk.run()
    return ("none", row_kind) if told is None else told


def kind_of_rows(question, kinds, stock):
    try:
        kind = kind_of(question, kinds, stock)
    except NoKind as fault:
        raise NoDifference("a question without a kind has no difference") from fault
    if kind[0] != "bag":
        raise NoDifference("what is no bag has no difference")
    return kind[1]


def begin(walk, question, names):
    # A difference that is none is told as None on the way: its kind is needed at the top alone, as no none stays in
    # what is told of others.
    word = question[0]
    if not names_some(question, names):
        walk.tell(None)
    elif word == "table":
        walk.tell(("table", names[question[1]]))
    elif word in ("both", "for"):
        walk.later(SUMS[word], question, names)
        walk.later(begin, question[-1], names)
        walk.later(begin, question[-2], names)
    elif word in ("times", "when") or (word == "let" and not names_some(question[2], names)):
        walk.later(wrap, question, names)
        walk.later(begin, question[-1], names)
    else:
        walk.tell(behind_less_ahead(question, names))


def names_some(question, names):
    return any([table in names for table in tables(question)])


def is_none(question):
    return question is None or question[0] == "none"


def total(parts):
    summed = None
    for part in [part for part in parts if part is not None]:
        summed = part if summed is None else ("both", summed, part)
    return summed


def both_differences(walk, question, names):
    walk.tell(total(walk.take(2)))


def for_differences(walk, question, names):
    name, over, inner = question[1:]
    more_over, more_inner = walk.take(2)
    walk.tell(total([
        made_for(name, more_over, inner),
        made_for(name, over, more_inner),
        made_for(name, more_over, more_inner),
    ]))


def made_for(name, over, inner):
    return None if is_none(over) or is_none(inner) else ("for", name, over, inner)


SUMS = {"both": both_differences, "for": for_differences}


def wrap(walk, question, names):
    inner = walk.take(1)[0]
    walk.tell(None if inner is None else question[:-1] + (inner,))


def behind_less_ahead(question, names):
    return ("both", behind(question, names), ("times", -1, question))


def behind(question, names):
    def put(part, below):
        if part[0] == "table" and part[1] in names:
            return ("both", part, ("table", names[part[1]]))
        return with_under(part, below)
    return folded(question, put)
