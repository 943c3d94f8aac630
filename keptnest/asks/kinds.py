"""The kind of a question, or the first knot in it that has none."""

from keptnest.asks.questions import under
from keptnest.asks.walks import Walk, bound
from keptnest.data.kinds import alike
from keptnest.errors import NoKind

NUMBER = ("num",)
WORD = ("word",)
TRUTH = ("truth",)


def kind_of(question, kinds, stock):
    walk = Walk()
    walk.later(begin, question, (kinds, stock, ()))
    return walk.run()


def begin(walk, question, around):
    kinds, stock, path = around
    if question[0] == "var":
        walk.tell(found_kind(kinds, question[1], path))
    elif question[0] == "table":
        walk.tell(("bag", found_kind(stock, question[1], path)))
    elif question[0] in ("for", "let"):
        walk.later(bind, question, around)
        walk.later(begin, question[2], (kinds, stock, path + (0,)))
    else:
        walk.later(finish, question, around)
        for place, part in reversed(list(enumerate(under(question)))):
            walk.later(begin, part, (kinds, stock, path + (place,)))


def found_kind(kinds, name, path):
    if name not in kinds:
        raise NoKind(path)
    return kinds[name]


def bind(walk, question, around):
    kinds, stock, path = around
    kind = walk.take(1)[0]
    if question[0] == "for":
        # At fault ahead of what it binds in, as nothing is known there of the name.
        if kind[0] != "bag":
            raise NoKind(path)
        kind = kind[1]
        walk.later(finish, question, around)
    walk.later(begin, question[3], (bound(kinds, question[1], kind), stock, path + (1,)))


def finish(walk, question, around):
    word = question[0]
    many = 1 if word == "for" else len(under(question))
    kind = FINISHED[word](question, walk.take(many))
    if kind is None:
        raise NoKind(around[2])
    walk.tell(kind)


def plain_kind(question, below):
    return (question[0],)


def row_kind(question, below):
    return ("row", tuple([(pair[0], kind) for pair, kind in zip(question[1], below)]))


def part_kind(question, below):
    if below[0][0] != "row":
        return None
    return dict(below[0][1]).get(question[1])


def number_kind(question, below):
    return NUMBER if below == [NUMBER, NUMBER] else None


def none_kind(question, below):
    return ("bag", question[1])


def one_kind(question, below):
    return ("bag", below[0])


def both_kind(question, below):
    return last_bag_kind(question, below) if alike(below[0], below[1]) else None


def last_bag_kind(question, below):
    return below[-1] if below[-1][0] == "bag" else None


def same_kind(question, below):
    return TRUTH if below in ([NUMBER, NUMBER], [WORD, WORD]) else None


def under_kind(question, below):
    return TRUTH if below == [NUMBER, NUMBER] else None


def truth_kind(question, below):
    return TRUTH


FINISHED = {
    "num": plain_kind,
    "word": plain_kind,
    "row": row_kind,
    "at": part_kind,
    "add": number_kind,
    "mul": number_kind,
    "none": none_kind,
    "one": one_kind,
    "both": both_kind,
    "times": last_bag_kind,
    "for": last_bag_kind,
    "when": last_bag_kind,
    "same": same_kind,
    "under": under_kind,
    "and": truth_kind,
    "or": truth_kind,
    "not": truth_kind,
}
