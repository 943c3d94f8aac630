import itertools
import unittest

from keptnest.data.kinds import is_flat, is_of, kind_shown
from keptnest.data.texts import read
from makers import NUM, WORD, Maker, bag_kind, row_of
from samples import RISING, bag, in_bag, in_row, nested, num, row, word

LETTERS = "abcdefghijklmnopqrstuvwxyz"

# Kinds, each once, and how each is written.
WRITTEN = (
    (NUM, "num"),
    (WORD, "word"),
    (row_of(), "<>"),
    (row_of(("a", NUM)), "<a: num>"),
    (row_of(("a", WORD)), "<a: word>"),
    (row_of(("b", NUM)), "<b: num>"),
    (row_of(("a", NUM), ("b", WORD)), "<a: num, b: word>"),
    (row_of(("a", NUM), ("b", WORD), ("c", row_of())), "<a: num, b: word, c: <>>"),
    (row_of(("a", row_of(("b", NUM)))), "<a: <b: num>>"),
    (row_of(("a", row_of(("b", NUM))), ("c", NUM)), "<a: <b: num>, c: num>"),
    (row_of(("a", row_of(("b", NUM), ("c", NUM)))), "<a: <b: num, c: num>>"),
    (row_of(("abcdefgh", bag_kind(NUM))), "<abcdefgh: {num}>"),
    (row_of(("nums", NUM), ("words", WORD)), "<nums: num, words: word>"),
    (bag_kind(NUM), "{num}"),
    (bag_kind(WORD), "{word}"),
    (bag_kind(row_of()), "{<>}"),
    (bag_kind(bag_kind(NUM)), "{{num}}"),
    (bag_kind(row_of(("a", NUM), ("of", bag_kind(row_of(("k", WORD)))))), "{<a: num, of: {<k: word>}>}"),
    (row_of(("a", bag_kind(NUM)), ("b", bag_kind(WORD))), "<a: {num}, b: {word}>"),
)

# Texts of values, and the texts of just those kinds of WRITTEN that they are of.
OF = (
    ("0", ["num"]),
    ("-987654321098765432109876543210", ["num"]),
    ("'a", ["word"]),
    ("'abcdefgh", ["word"]),
    ("<>", ["<>"]),
    ("<a: 1>", ["<a: num>"]),
    ("<a: 'x>", ["<a: word>"]),
    ("<b: 1>", ["<b: num>"]),
    ("<c: 1>", []),
    ("<aa: 1>", []),
    ("<a: <>>", []),
    ("<a: {}>", []),
    ("<a: 1, b: 'x>", ["<a: num, b: word>"]),
    ("<a: 1, b: 1>", []),
    ("<a: 'x, b: 1>", []),
    ("<a: 'x, b: 'x>", []),
    ("<a: 1, c: 'x>", []),
    ("<a: 1, b: 'x, c: <>>", ["<a: num, b: word, c: <>>"]),
    ("<a: 1, b: 'x, c: {}>", []),
    ("<a: 1, b: 'x, c: <d: 1>>", []),
    ("<a: 1, b: 'x, c: <>, d: 1>", []),
    ("<a: <b: 1>>", ["<a: <b: num>>"]),
    ("<a: <b: 'x>>", []),
    ("<a: <c: 1>>", []),
    ("<a: <b: 1>, c: 1>", ["<a: <b: num>, c: num>"]),
    ("<a: <b: 1, c: 1>>", ["<a: <b: num, c: num>>"]),
    ("<abcdefgh: {}>", ["<abcdefgh: {num}>"]),
    ("<abcdefgh: {1, 2 * -3}>", ["<abcdefgh: {num}>"]),
    ("<abcdefgh: {1, 'x}>", []),
    ("<nums: 1, words: 'nums>", ["<nums: num, words: word>"]),
    ("{}", ["{num}", "{word}", "{<>}", "{{num}}", "{<a: num, of: {<k: word>}>}"]),
    ("{1}", ["{num}"]),
    ("{1 * -7, 2, 3 * 987654321098765432109876543210}", ["{num}"]),
    ("{'x}", ["{word}"]),
    ("{1, 'x}", []),
    ("{<>}", ["{<>}"]),
    ("{<> * -1}", ["{<>}"]),
    ("{<>, <a: 1>}", []),
    ("{{}}", ["{{num}}"]),
    ("{{} * 2, {1}, {2, 3 * 4} * -1}", ["{{num}}"]),
    ("{{}, {'x}}", []),
    ("{{}, 1}", []),
    ("{{{}}}", []),
    ("{{{1}}}", []),
    ("{<a: 1, of: {}>}", ["{<a: num, of: {<k: word>}>}"]),
    ("{<a: 1, of: {<k: 'x> * 3, <k: 'y>}>, <a: 2, of: {}>}", ["{<a: num, of: {<k: word>}>}"]),
    ("{<a: 1, of: {<k: 'x>}>, <a: 2, of: {<k: 1>}>}", []),
    ("{<a: 1, of: <k: 'x>>}", []),
    ("<a: 1, of: {<k: 'x>}>", []),
    ("<a: {}, b: {}>", ["<a: {num}, b: {word}>"]),
    ("<a: {1}, b: {'x}>", ["<a: {num}, b: {word}>"]),
    ("<a: {'x}, b: {'x}>", []),
    ("<a: {1}, b: {1}>", []),
)


def places(kind):
    """Every kind that is unlike this one in one place, with what was done there."""
    yield "around", bag_kind(kind)
    yield "around", row_of(("f", kind))
    if kind[0] in ("num", "word"):
        yield "other", WORD if kind == NUM else NUM
        yield "other", row_of()
    elif kind[0] == "bag":
        yield "off", kind[1]
        yield from ((what, bag_kind(other)) for what, other in places(kind[1]))
    else:
        yield "more", ("row", kind[1] + (("zzz", NUM),))
        for here, (field, part) in enumerate(kind[1]):
            yield "less", ("row", kind[1][:here] + kind[1][here + 1:])
            yield "called", ("row", kind[1][:here] + ((field + "z", part),) + kind[1][here + 1:])
            for what, other in places(part):
                yield what, ("row", kind[1][:here] + ((field, other),) + kind[1][here + 1:])


def full(kind):
    """A value of this kind, no bag in it empty."""
    if kind[0] == "num":
        return num(3)
    if kind[0] == "word":
        return word("w")
    if kind[0] == "row":
        return ("row", tuple((field, full(part)) for field, part in kind[1]))
    return bag((full(kind[1]), -2))


class TestIsOf(unittest.TestCase):
    def test_each_value_by_each_kind(self):
        for text, wanted in OF:
            for kind, written in WRITTEN:
                self.assertIs(is_of(read(text), kind), written in wanted, (text, written))

    def test_samples_by_kinds_of_their_sort(self):
        for value in RISING:
            self.assertIs(is_of(value, NUM), value[0] == "num")
            self.assertIs(is_of(value, WORD), value[0] == "word")
            self.assertIs(is_of(value, row_of()), value == row())
            self.assertIs(is_of(value, bag_kind(NUM)), value[0] == "bag" and all(v[0] == "num" for v, c in value[1]))

    def test_the_empty_bag_is_of_each_bag_kind_and_of_no_other(self):
        for kind, written in WRITTEN:
            self.assertIs(is_of(bag(), bag_kind(kind)), True)
            self.assertIs(is_of(bag(), kind), kind[0] == "bag")
            self.assertIs(is_of(row(("a", bag())), row_of(("a", bag_kind(kind)))), True)
            self.assertIs(is_of(in_bag(bag()), bag_kind(bag_kind(kind))), True)
            self.assertIs(is_of(in_bag(bag()), bag_kind(kind)), kind[0] == "bag")

    def test_unlike_in_one_place(self):
        for kind in [kind for kind, written in WRITTEN] + [Maker(seed).kind(5) for seed in range(60)]:
            self.assertIs(is_of(full(kind), kind), True, kind)
            for what, other in places(kind):
                self.assertIs(is_of(full(kind), other), False, (what, kind, other))
                self.assertIs(is_of(full(other), kind), False, (what, kind, other))
                self.assertIs(is_of(full(other), other), True, other)

    def test_drawn_values_are_of_the_kind_they_are_drawn_for(self):
        for seed in range(200):
            maker = Maker(seed)
            kind = maker.kind(5)
            value = maker.value(kind)
            self.assertIs(is_of(value, kind), True, (value, kind))
            self.assertIs(is_of(in_bag(value), bag_kind(kind)), True)
            self.assertIs(is_of(in_row(value), row_of(("f", kind))), True)
            self.assertIs(is_of(in_row(value), row_of(("g", kind))), False)

    def test_rows_of_up_to_fourteen_fields(self):
        for many in range(15):
            fields = LETTERS[:many]
            kind = ("row", tuple((field, NUM if place % 2 else WORD) for place, field in enumerate(fields)))
            self.assertIs(is_of(full(kind), kind), True)
            for what, other in places(kind):
                self.assertIs(is_of(full(other), kind), False, what)
            for field, part in kind[1]:
                odd = ("row", tuple((f, bag() if f == field else v) for f, v in full(kind)[1]))
                self.assertIs(is_of(odd, kind), False)

    def test_bags_of_up_to_forty_rows_one_of_them_odd(self):
        kind = bag_kind(row_of(("a", NUM), ("b", bag_kind(NUM))))
        rows = tuple((row(("a", num(k)), ("b", bag((num(k), 1)))), 2) for k in range(40))
        self.assertIs(is_of(("bag", rows), kind), True)
        for place in range(40):
            odd = ((row(("a", num(place)), ("b", bag((word("w"), 1)))), 2),)
            self.assertIs(is_of(("bag", rows[:place] + odd + rows[place + 1:]), kind), False)

    def test_twelve_within_one_another(self):
        for wrap, around in ((in_bag, bag_kind), (in_row, lambda kind: row_of(("f", kind)))):
            for depth in (12, 13, 400):
                self.assertIs(is_of(nested(depth, wrap, num(1)), nested(depth, around, NUM)), True)
                self.assertIs(is_of(nested(depth, wrap, word("w")), nested(depth, around, NUM)), False)
                self.assertIs(is_of(nested(depth, wrap, num(1)), nested(depth - 1, around, NUM)), False)
                self.assertIs(is_of(nested(depth - 1, wrap, num(1)), nested(depth, around, NUM)), False)
        self.assertIs(is_of(nested(5, in_bag, bag()), nested(12, bag_kind, NUM)), True)


class TestIsFlat(unittest.TestCase):
    def test_flat_where_there_is_no_bag(self):
        for kind, written in WRITTEN:
            self.assertIs(is_flat(kind), "{" not in written, written)

    def test_a_bag_anywhere(self):
        for depth in range(1, 13):
            flat = nested(depth, lambda kind: row_of(("a", NUM), ("f", kind), ("g", WORD)), WORD)
            self.assertIs(is_flat(flat), True)
            self.assertIs(is_flat(bag_kind(flat)), False)
            inner = nested(depth, lambda kind: row_of(("a", NUM), ("f", kind), ("g", WORD)), bag_kind(NUM))
            self.assertIs(is_flat(inner), False)
        for place in range(14):
            parts = tuple((field, bag_kind(WORD) if here == place else NUM) for here, field in enumerate(LETTERS[:14]))
            self.assertIs(is_flat(("row", parts)), False)
            self.assertIs(is_flat(("row", parts[:place] + parts[place + 1:])), True)

    def test_deep(self):
        self.assertIs(is_flat(nested(2000, lambda kind: row_of(("f", kind)), NUM)), True)
        self.assertIs(is_flat(nested(2000, lambda kind: row_of(("f", kind)), bag_kind(NUM))), False)


class TestKindShown(unittest.TestCase):
    def test_sign_by_sign(self):
        for kind, written in WRITTEN:
            self.assertEqual(kind_shown(kind), written)

    def test_in_parts(self):
        for one, other in itertools.product([kind for kind, written in WRITTEN], repeat=2):
            self.assertEqual(kind_shown(bag_kind(one)), "{" + kind_shown(one) + "}")
            both = row_of(("a", one), ("bc", other))
            self.assertEqual(kind_shown(both), "<a: " + kind_shown(one) + ", bc: " + kind_shown(other) + ">")

    def test_unlike_kinds_have_unlike_texts(self):
        kinds = {kind for kind, written in WRITTEN} | {Maker(seed).kind(5) for seed in range(200)}
        for kind in list(kinds):
            kinds |= {other for what, other in places(kind)}
        self.assertEqual(len({kind_shown(kind) for kind in kinds}), len(kinds))

    def test_fourteen_fields(self):
        kind = ("row", tuple((field, WORD) for field in LETTERS[:14]))
        self.assertEqual(kind_shown(kind), "<" + ", ".join(field + ": word" for field in LETTERS[:14]) + ">")

    def test_deep(self):
        self.assertEqual(kind_shown(nested(12, bag_kind, NUM)), "{" * 11 + "num" + "}" * 11)
        self.assertEqual(kind_shown(nested(2000, bag_kind, row_of())), "{" * 1999 + "<>" + "}" * 1999)
