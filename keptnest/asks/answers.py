"""The plain answer to a question: its value; of a claim, its truth."""

from keptnest.asks.questions import under
from keptnest.asks.walks import Walk, bound
from keptnest.data.values import added, bag_of, times

EMPTY = ("bag", ())


def answer(question, values, store):
    walk = Walk()
    walk.later(begin, question, (values, store))
    return walk.run()


def begin(walk, question, around):
    word = question[0]
    if word in ("num", "word"):
        walk.tell(question)
    elif word == "var":
        walk.tell(around[0][question[1]])
    elif word == "table":
        walk.tell(around[1][question[1]])
    elif word in GOES_ON:
        walk.later(GOES_ON[word], question, around)
        walk.later(begin, under(question)[0], around)
    else:
        parts = under(question)
        walk.later(finish, question, len(parts))
        for part in reversed(parts):
            walk.later(begin, part, around)


def go_through(walk, question, around):
    values, store = around
    bag = walk.take(1)[0]
    walk.later(gather, bag, around)
    for row, count in reversed(bag[1]):
        walk.later(begin, question[3], (bound(values, question[1], row), store))


def gather(walk, bag, around):
    pairs = []
    for pair, inner in zip(bag[1], walk.take(len(bag[1]))):
        pairs.extend([(row, pair[1] * count) for row, count in inner[1]])
    walk.tell(bag_of(pairs))


def let_in(walk, question, around):
    values, store = around
    value = walk.take(1)[0]
    walk.later(begin, question[3], (bound(values, question[1], value), store))


def choose(walk, question, around):
    if walk.take(1)[0]:
        walk.later(begin, question[2], around)
    else:
        walk.tell(EMPTY)


GOES_ON = {"for": go_through, "let": let_in, "when": choose}


def finish(walk, question, many):
    walk.tell(FINISHED[question[0]](question, walk.take(many)))


def row_answer(question, below):
    return ("row", tuple([(pair[0], value) for pair, value in zip(question[1], below)]))


def at_answer(question, below):
    return dict(below[0][1])[question[1]]


def add_answer(question, below):
    return ("num", below[0][1] + below[1][1])


def mul_answer(question, below):
    return ("num", below[0][1] * below[1][1])


def none_answer(question, below):
    return EMPTY


def one_answer(question, below):
    return ("bag", ((below[0], 1),))


def both_answer(question, below):
    return added(below[0], below[1])


def times_answer(question, below):
    return times(below[0], question[1])


def same_answer(question, below):
    return below[0] == below[1]


def under_answer(question, below):
    return below[0][1] < below[1][1]


def and_answer(question, below):
    return below[0] and below[1]


def or_answer(question, below):
    return below[0] or below[1]


def not_answer(question, below):
    return not below[0]


FINISHED = {
    "row": row_answer,
    "at": at_answer,
    "add": add_answer,
    "mul": mul_answer,
    "none": none_answer,
    "one": one_answer,
    "both": both_answer,
    "times": times_answer,
    "same": same_answer,
    "under": under_answer,
    "and": and_answer,
    "or": or_answer,
    "not": not_answer,
}
