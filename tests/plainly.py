"""What the document tells of questions, told a second time, as plainly as may be and without the program."""

import functools

from samples import compared


def plain_bag(pairs):
    counts = {}
    for value, count in pairs:
        counts[value] = counts.get(value, 0) + count
    values = sorted((value for value in counts if counts[value]), key=functools.cmp_to_key(compared))
    return ("bag", tuple((value, counts[value]) for value in values))


def plain_sum(one, other, k=1):
    return plain_bag(one[1] + tuple((value, count * k) for value, count in other[1]))


def parts_below(question):
    word, *rest = question
    if word in ("num", "word", "var", "table", "none"):
        return []
    if word == "row":
        return [part for field, part in rest[0]]
    return rest[{"at": 1, "times": 1, "for": 1, "let": 1}.get(word, 0):]


def plain_answer(question, values, store):
    """The answer as [11] and [14] tell it."""
    word, *rest = question

    def ask(part, more=()):
        return plain_answer(part, {**values, **dict(more)}, store)
    if word in ("num", "word"):
        return question
    if word == "var":
        return values[rest[0]]
    if word == "table":
        return store[rest[0]]
    if word == "row":
        return ("row", tuple((field, ask(part)) for field, part in rest[0]))
    if word == "at":
        return next(part for field, part in ask(rest[1])[1] if field == rest[0])
    if word in ("add", "mul"):
        one, other = ask(rest[0])[1], ask(rest[1])[1]
        return ("num", one + other if word == "add" else one * other)
    if word == "let":
        return ask(rest[2], {rest[0]: ask(rest[1])})
    if word in ("none", "one", "both", "times", "for", "when"):
        return plain_bag(plain_pairs(question, ask))
    if word == "same":
        return ask(rest[0]) == ask(rest[1])
    if word == "under":
        return ask(rest[0])[1] < ask(rest[1])[1]
    return {"and": all, "or": any, "not": lambda truths: not truths[0]}[word]([ask(part) for part in rest])


def plain_pairs(question, ask):
    word, *rest = question
    if word == "none":
        return []
    if word == "one":
        return [(ask(rest[0]), 1)]
    if word == "both":
        return [pair for part in rest for pair in ask(part)[1]]
    if word == "times":
        return [(value, count * rest[0]) for value, count in ask(rest[1])[1]]
    if word == "when":
        return ask(rest[1])[1] if ask(rest[0]) else []
    return [(value, count * more) for row, count in ask(rest[1])[1] for value, more in ask(rest[2], {rest[0]: row})[1]]


def plain_tables(question):
    own = {question[1]} if question[0] == "table" else set()
    return own.union(*(plain_tables(part) for part in parts_below(question)))


def plain_free(question):
    word, *rest = question
    if word == "var":
        return {rest[0]}
    if word in ("for", "let"):
        return plain_free(rest[1]) | (plain_free(rest[2]) - {rest[0]})
    return set().union(*(plain_free(part) for part in parts_below(question)))


def plain_kind(question, kinds, stock):
    """The kind of a question that has one."""
    word, *rest = question

    def ask(part, more=()):
        return plain_kind(part, {**kinds, **dict(more)}, stock)
    if word in ("num", "word"):
        return (word,)
    if word in ("add", "mul"):
        return ("num",)
    if word == "var":
        return kinds[rest[0]]
    if word == "table":
        return ("bag", stock[rest[0]])
    if word == "row":
        return ("row", tuple((field, ask(part)) for field, part in rest[0]))
    if word == "at":
        return dict(ask(rest[1])[1])[rest[0]]
    if word == "none":
        return ("bag", rest[0])
    if word == "one":
        return ("bag", ask(rest[0]))
    if word in ("both", "times", "when"):
        return ask(rest[-1])
    if word == "for":
        return ask(rest[2], {rest[0]: ask(rest[1])[1]})
    if word == "let":
        return ask(rest[2], {rest[0]: ask(rest[1])})
    return ("truth",)


def plain_even(question):
    """Whether a bag question is even, as [19] tells."""
    if question[0] in ("one", "at", "let") and plain_tables(parts_below(question)[0]):
        return False
    return all(plain_even(part) for part in parts_below(question))


def plain_degree(question, names):
    """The degree of an even bag question, as [20] tells."""
    word, *rest = question
    if word == "table":
        return int(rest[0] in names)
    if word in ("none", "one", "at", "var"):
        return 0
    if word in ("times", "when", "let"):
        return plain_degree(rest[-1], names)
    degrees = [plain_degree(part, names) for part in parts_below(question)]
    return {"both": max, "for": sum}[word](degrees)


def plain_put(question, names):
    """The question with each changing table put as both of it and its change."""
    word, *rest = question
    if word == "table" and rest[0] in names:
        return ("both", question, ("table", names[rest[0]]))
    if word in ("num", "word", "var", "table", "none"):
        return question
    if word == "row":
        return ("row", tuple((field, plain_put(part, names)) for field, part in rest[0]))
    parts = parts_below(question)
    return question[:len(question) - len(parts)] + tuple(plain_put(part, names) for part in parts)


def plain_difference(question, names, kinds, stock):
    """The difference of a bag question, as [17] tells it."""
    word, *rest = question
    none = ("none", plain_kind(question, kinds, stock)[1])

    def touched(part):
        return any(name in names for name in plain_tables(part))

    def ask(part, more=()):
        return plain_difference(part, names, {**kinds, **dict(more)}, stock)

    def total(*parts):
        left = [part for part in parts if part[0] != "none"]
        if len(left) == 3:
            return ("both", ("both", left[0], left[1]), left[2])
        return ("both",) + tuple(left) if len(left) == 2 else (left + [none])[0]

    def go(over, inner):
        return none if "none" in (over[0], inner[0]) else ("for", rest[0], over, inner)
    if not touched(question):
        return none
    if word == "table":
        return ("table", names[rest[0]])
    if word == "both":
        return total(ask(rest[0]), ask(rest[1]))
    if word in ("times", "when"):
        inner = ask(rest[1])
        return none if inner[0] == "none" else (word, rest[0], inner)
    if word == "for":
        more = {rest[0]: plain_kind(rest[1], kinds, stock)[1]}
        first, second = ask(rest[1]), ask(rest[2], more)
        return total(go(first, rest[2]), go(rest[1], second), go(first, second))
    if word == "let" and not touched(rest[1]):
        inner = ask(rest[2], {rest[0]: plain_kind(rest[1], kinds, stock)})
        return none if inner[0] == "none" else ("let", rest[0], rest[1], inner)
    return ("both", plain_put(question, names), ("times", -1, question))
