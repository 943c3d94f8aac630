"""Values that several tests go through, and the order of [5] told a second time, pair by pair."""

TAKEN_WORDS = (
    "num word row bag var table at add mul none one both times for when let same under and or not"
).split()

GREAT = 987654321098765432109876543210

# A question with every word in it.
ALL_WORDS = (
    "let q num 7 for r both table n times -2 none num when and or same word a word b under var r num 3 "
    "not same at f row 2 f num 1 g var q mul var r num 2 one add var r var q"
)

# Questions in which a for goes over another thing than a table or none.
NOT_FLAT = (
    "for x table deep for y at of var x one var y", "for x table bags for y var x one var y",
    "both table n for x table bags for y var x one var y", "both for x table bags for y var x one var y table n",
    "for x table bags for y var x for z none num one num 1", "times 2 for x table bags for y var x one num 1",
    "for x table n for y at of var x when same num 1 num 2 one num 1", "for x table bags for y var x none num",
    "for x at of var y one var x", "for x var y one var x", "let z num 1 for x table bags for y var x one num 1",
)


def num(k):
    return ("num", k)


def word(t):
    return ("word", t)


def row(*parts):
    return ("row", parts)


def bag(*rows):
    return ("bag", rows)


def nested(depth, wrap, inner):
    value = inner
    for turn in range(depth - 1):
        value = wrap(value)
    return value


def in_bag(value):
    return bag((value, 1))


def in_row(value):
    return row(("f", value))


# Rising in the order of [5], each value once; so every two of them are a test of it.
RISING = (
    num(-GREAT), num(-GREAT + 1), num(-12), num(-3), num(-1), num(0), num(1), num(2), num(3), num(12),
    num(GREAT - 1), num(GREAT),
    word("a"), word("aa"), word("ab"), word("abc"), word("abcdefgh"), word("b"), word("ba"), word("z"), word("zz"),
    row(),
    row(("a", num(1))),
    row(("a", num(1)), ("b", num(0))),
    row(("a", num(1)), ("b", num(9)), ("c", num(0))),
    row(("a", num(1)), ("b", word("a"))),
    row(("a", num(1)), ("c", num(-7))),
    row(("a", num(2))),
    row(("a", num(10))),
    row(("a", word("a"))),
    row(("a", row())),
    row(("a", row(("z", num(0))))),
    row(("a", bag())),
    row(("a", bag((num(1), -1)))),
    row(("a", bag((num(1), 1)))),
    row(("a", bag((num(1), 1))), ("b", num(0))),
    row(("aa", num(0))),
    row(("b", num(-5))),
    row(("b", num(-5)), ("c", num(1))),
    row(("ba", num(-9))),
    bag(),
    bag((num(-1), 5)),
    bag((num(0), -GREAT)),
    bag((num(0), -10)),
    bag((num(0), -2)),
    bag((num(0), -2), (num(1), 7)),
    bag((num(0), 1)),
    bag((num(0), 1), (num(1), -3)),
    bag((num(0), 1), (num(1), 2)),
    bag((num(0), 1), (num(1), 2), (num(2), 1)),
    bag((num(0), 1), (num(2), -9)),
    bag((num(0), 1), (word("a"), -9)),
    bag((num(0), 2)),
    bag((num(0), 10)),
    bag((num(1), -4)),
    bag((word("a"), -4)),
    bag((row(), -4)),
    bag((row(("a", num(1))), -4)),
    bag((bag(), -4)),
    bag((bag(), 1)),
    bag((bag(), 1), (bag((num(1), 1)), 1)),
    bag((bag((num(1), 1)), -1)),
    bag((bag((num(1), 1)), 1)),
    bag((bag((num(1), 2)), -8)),
    bag((bag((bag(), 1)), 1)),
)


def has_form(value):
    """Whether it is built as [4] tells: tuples within tuples, rising, each once, no count 0."""
    if not (isinstance(value, tuple) and len(value) == 2):
        return False
    if value[0] == "num":
        return type(value[1]) is int
    if value[0] == "word":
        return is_name(value[1])
    pairs = value[1]
    if not (isinstance(pairs, tuple) and all(isinstance(pair, tuple) and len(pair) == 2 for pair in pairs)):
        return False
    if value[0] == "row":
        fields = [field for field, part in pairs]
        return all(map(is_name, fields)) and fields == sorted(set(fields)) and all(has_form(p) for f, p in pairs)
    if value[0] != "bag" or not all(has_form(v) and type(c) is int and c != 0 for v, c in pairs):
        return False
    return all(compared(one[0], other[0]) < 0 for one, other in zip(pairs, pairs[1:]))


def is_name(text):
    letters = type(text) is str and 1 <= len(text) <= 8 and all("a" <= sign <= "z" for sign in text)
    return letters and text not in TAKEN_WORDS


def compared(one, other):
    """-1, 0 or 1, told as [5] tells it."""
    ranks = ["num", "word", "row", "bag"]
    if one[0] != other[0]:
        return -1 if ranks.index(one[0]) < ranks.index(other[0]) else 1
    if one[0] in ("num", "word"):
        return plainly(one[1], other[1])
    for (left, more_left), (right, more_right) in zip(one[1], other[1]):
        if one[0] == "row":
            found = plainly(left, right) or compared(more_left, more_right)
        else:
            found = compared(left, right) or plainly(more_left, more_right)
        if found:
            return found
    return plainly(len(one[1]), len(other[1]))


def plainly(one, other):
    return (one > other) - (one < other)
