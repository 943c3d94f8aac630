import unittest

from keptnest.asks.kinds import kind_of
from keptnest.asks.questions import question_shown, read_question, under
from keptnest.data.kinds import kind_shown
from keptnest.errors import NoKind
from makers import ASKED_KINDS, NUM, STOCK, WORD, Maker, bag_kind, drawn, row_of
from plainly import plain_free, plain_kind
from samples import nested, num, row, word

KINDS = {"x": NUM, "y": row_of(("a", NUM), ("b", WORD)), "z": bag_kind(NUM), "w": WORD, "e": row_of()}
TABLES = {"t": KINDS["y"], "n": NUM, "d": row_of(("of", bag_kind(KINDS["y"]))), "h": bag_kind(NUM)}

# Texts of questions, and of the kinds they have.
HAVE = (
    ("num -3", "num"), ("word a", "word"), ("var x", "num"), ("var y", "<a: num, b: word>"), ("var z", "{num}"),
    ("table t", "{<a: num, b: word>}"), ("table n", "{num}"), ("table h", "{{num}}"), ("row 0", "<>"),
    ("row 2 a var z b row 1 c table n", "<a: {num}, b: <c: {num}>>"),
    ("at a var y", "num"), ("at b var y", "word"), ("at c row 2 b num 1 c table t", "{<a: num, b: word>}"),
    ("add var x num 1", "num"), ("mul at a var y var x", "num"),
    ("none num", "{num}"), ("none bag row 0", "{{<>}}"), ("one num 1", "{num}"), ("one var z", "{{num}}"),
    ("both table n var z", "{num}"), ("both none num table n", "{num}"),
    ("both one var y table t", "{<a: num, b: word>}"),
    ("times 0 table t", "{<a: num, b: word>}"), ("times -4 var z", "{num}"),
    ("for r table t one at a var r", "{num}"), ("for r table d at of var r", "{<a: num, b: word>}"),
    ("for r table h var r", "{num}"), ("for r none word one var r", "{word}"),
    ("for x table t one var x", "{<a: num, b: word>}"), ("for x var z one add var x var x", "{num}"),
    ("for r table t for r table n one var r", "{num}"), ("for r for r table t one at b var r one var r", "{word}"),
    ("when same var x num 1 table n", "{num}"), ("when under var x at a var y var z", "{num}"),
    ("when and same var w word a or not under num 1 num 2 same num 1 num 1 one row 0", "{<>}"),
    ("let r num 1 var r", "num"), ("let r table t var r", "{<a: num, b: word>}"), ("let x word a var x", "word"),
    ("let r var y at b var r", "word"), ("let x row 1 f var x at f var x", "num"), ("let r num 1 word a", "word"),
    ("let z var w one var z", "{word}"), ("let r for x table t one var x for r var r one at a var r", "{num}"),
)
CLAIMS = (
    "same num 1 var x", "same word a var w", "same at a var y num 1", "under var x num 1",
    "and same num 1 num 1 under num 1 num 1", "or same num 1 num 1 not same var w var w", "not under num 1 num 2",
)

# Texts of questions without a kind, and the path of the first knot at fault.
FAULTS = (
    ("var gone", ()), ("table gone", ()), ("var t", ()), ("table x", ()),
    ("row 1 a var gone", (0,)), ("row 3 a num 1 b table gone c num 1", (1,)),
    ("at a num 1", ()), ("at a word a", ()), ("at a table t", ()), ("at c var y", ()), ("at a row 0", ()),
    ("at a var gone", (0,)), ("at a at c var y", (0,)), ("at aa row 2 a num 1 b num 1", ()), ("at a var e", ()),
    ("add word a num 1", ()), ("add num 1 word a", ()), ("add table n num 1", ()), ("add var y num 1", ()),
    ("add num 1 var gone", (1,)), ("add var gone num 1", (0,)), ("add word a var gone", (1,)),
    ("mul word a num 1", ()), ("mul num 1 var z", ()), ("mul row 0 row 0", ()), ("mul num 1 mul num 1 word a", (1,)),
    ("one var gone", (0,)), ("one one add word a num 1", (0, 0)),
    ("both num 1 num 1", ()), ("both table n num 1", ()), ("both num 1 table n", ()), ("both table n table t", ()),
    ("both row 0 row 0", ()), ("both none num none word", ()), ("both var y var y", ()), ("both word a word a", ()),
    ("both none row 1 a num none row 1 b num", ()), ("both none row 0 none row 1 a num", ()),
    ("both none bag num none num", ()), ("both none row 1 a bag num none row 1 a bag word", ()),
    ("both none row 2 a num b num none row 2 a num b word", ()), ("both none row 2 a num b num none row 1 a num", ()),
    ("both var gone table gone", (0,)), ("both table n table gone", (1,)), ("both num 1 table gone", (1,)),
    ("times 2 num 1", ()), ("times 0 row 0", ()), ("times 1 var gone", (0,)), ("times 1 times 1 var y", (0,)),
    ("for r num 1 one var r", ()), ("for r var y one var r", ()), ("for r word a table t", ()),
    ("for r table t num 1", ()), ("for r table t var r", ()), ("for r table n var r", ()), ("for r table t row 0", ()),
    ("for r table t one var gone", (1, 0)), ("for r table t one at c var r", (1, 0)), ("for r var gone table t", (0,)),
    ("for r num 1 var gone", ()), ("for r num 1 table gone", ()), ("for r num 1 add word a word a", ()),
    ("for r num 1 for s num 1 num 1", ()), ("for r table t for s num 1 var gone", (1,)),
    ("for r for s num 1 num 1 var gone", (0,)), ("for r for s table t num 1 var gone", (0,)),
    ("for r both num 1 num 1 var gone", (0,)), ("for r var r one num 1", (0,)), ("for r one var r one num 1", (0, 0)),
    ("both for r table t one var r one var r", (1, 0)), ("for x table n one at a var x", (1, 0)),
    ("when same num 1 num 1 num 1", ()), ("when same num 1 num 1 row 0", ()), ("when same num 1 word a table t", (0,)),
    ("when same var gone num 1 table t", (0, 0)), ("when same num 1 num 1 table gone", (1,)),
    ("when same num 1 word a num 1", (0,)), ("when not same num 1 word a table gone", (0, 0)),
    ("when and same num 1 num 1 under num 1 word a table t", (0, 1)), ("when under table n num 1 num 1", (0,)),
    ("when or same num 1 var gone same word a num 1 table t", (0, 0, 1)),
    ("when same table n table n table n", (0,)), ("when same row 0 row 0 table n", (0,)),
    ("when same var y var y table n", (0,)), ("when under word a word a table n", (0,)),
    ("when under num 1 table n table n", (0,)), ("when same word a num 1 table n", (0,)),
    ("let r var gone num 1", (0,)), ("let r num 1 var gone", (1,)), ("let r var r num 1", (0,)),
    ("let r num 1 both var r var r", (1,)), ("let r var gone var gone", (0,)), ("add let r num 1 var r var r", (1,)),
    ("let x table t add var x num 1", (1,)), ("let r num 1 for s var r one num 1", (1,)),
)
# Claims at fault, alone, with their paths.
CLAIM_FAULTS = (
    ("same num 1 word a", ()), ("same table n table n", ()), ("under word a word a", ()), ("under num 1 table n", ()),
    ("same var gone word a", (0,)), ("same num 1 var gone", (1,)), ("not same num 1 word a", (0,)),
    ("and same num 1 num 1 same num 1 word a", (1,)), ("and same num 1 word a same num 1 word a", (0,)),
    ("or under var gone num 1 same num 1 word a", (0, 0)), ("or same num 1 word a same var gone num 1", (0,)),
)


def read_claim(text):
    return read_question("when " + text + " table t")[1]


def replaced(question, path, other):
    if path == ():
        return other
    place = path[0]
    inner = replaced(under(question)[place], path[1:], other)
    if question[0] == "row":
        return ("row", tuple((field, inner if here == place else part)
                             for here, (field, part) in enumerate(question[1])))
    start = len(question) - len(under(question))
    return question[:start + place] + (inner,) + question[start + place + 1:]


def paths(question, path=()):
    yield path, question
    for place, part in enumerate(under(question)):
        yield from paths(part, path + (place,))


IS_CLAIM = ("same", "under", "and", "or", "not")
FAULTY = (("var", "gone"), ("table", "gone"), ("at", "gone", row()), ("add", word("a"), num(1)),
          ("both", num(1), num(1)), ("times", 1, row()), ("for", "x", num(1), ("var", "gone")))
FAULTY_CLAIM = (("same", num(1), word("a")), ("under", row(), num(1)), ("same", row(), row()))


class TestHave(unittest.TestCase):
    def test_of_each_word(self):
        for text, wanted in HAVE:
            self.assertEqual(kind_shown(kind_of(read_question(text), KINDS, TABLES)), wanted, text)

    def test_each_within_others(self):
        for text, wanted in HAVE:
            self.assertEqual(kind_shown(kind_of(read_question("one " + text), KINDS, TABLES)), "{" + wanted + "}")
            kind = kind_of(read_question(f"row 2 a {text} b let v {text} var v"), KINDS, TABLES)
            self.assertEqual(kind_shown(kind), f"<a: {wanted}, b: {wanted}>")
            kind = kind_of(read_question(f"for v one {text} one row 1 f var v"), KINDS, TABLES)
            self.assertEqual(kind_shown(kind), "{<f: " + wanted + ">}")

    def test_claims_have_a_truth(self):
        for text in CLAIMS:
            self.assertEqual(kind_of(read_claim(text), KINDS, TABLES), ("truth",), text)

    def test_drawn(self):
        for question, kind, store, change in drawn(11, 400):
            self.assertEqual(kind_of(question, {}, STOCK), kind)
        maker = Maker(12)
        for turn in range(300):
            kind = maker.chance.choice(ASKED_KINDS)
            question = maker.question(kind, KINDS, STOCK, 5)
            self.assertEqual(kind_of(question, KINDS, STOCK), kind)
            for path, part in paths(question):
                if plain_free(part) == set():
                    self.assertEqual(kind_of(part, {}, STOCK), plain_kind(part, {}, STOCK))

    def test_tuples_as_the_document_tells(self):
        self.assertEqual(kind_of(("table", "t"), {}, TABLES), ("bag", ("row", (("a", ("num",)), ("b", ("word",))))))
        self.assertEqual(kind_of(row(), {}, {}), ("row", ()))
        self.assertEqual(kind_of(num(3), {}, {}), ("num",))
        self.assertEqual(kind_of(word("a"), {}, {}), ("word",))

    def test_tables_and_variables_of_one_name_are_two_things(self):
        question = ("for", "t", ("table", "t"), ("both", ("table", "t"), ("one", ("var", "t"))))
        self.assertEqual(kind_of(question, {"t": WORD}, {"t": NUM}), bag_kind(NUM))

    def test_the_dicts_stay(self):
        kinds, stock = dict(KINDS), dict(TABLES)
        for text in [text for text, wanted in HAVE + FAULTS]:
            try:
                kind_of(read_question(text), kinds, stock)
            except NoKind:
                pass
            self.assertEqual((kinds, stock), (KINDS, TABLES))
            self.assertEqual((list(kinds), list(stock)), (list(KINDS), list(TABLES)))

    def test_deep(self):
        deep = nested(1500, lambda inner: ("one", inner), num(1))
        kind = kind_of(("both", deep, deep), {}, {})
        self.assertEqual(kind_shown(kind), "{" * 1499 + "num" + "}" * 1499)
        rows = nested(700, lambda inner: row(("f", inner)), ("var", "x"))
        kind = kind_of(("both", ("one", rows), ("one", rows)), {"x": NUM}, {})
        self.assertEqual(kind_shown(kind), "{" + "<f: " * 699 + "num" + ">" * 699 + "}")
        for binder in ("for", "let"):
            deep = nested(700, lambda inner: (binder, "x", ("table", "n"), inner), ("table", "n"))
            self.assertEqual(kind_of(deep, {}, TABLES), bag_kind(NUM))


class TestFaults(unittest.TestCase):
    def at_fault(self, question, path):
        with self.assertRaises(NoKind, msg=question_shown(question)) as caught:
            kind_of(question, KINDS, TABLES)
        self.assertIs(type(caught.exception), NoKind)
        self.assertEqual(caught.exception.path, path, question_shown(question))
        self.assertIsInstance(caught.exception.path, tuple)

    def test_alone(self):
        for text, path in FAULTS:
            self.at_fault(read_question(text), path)

    def test_claims(self):
        for text, path in CLAIM_FAULTS:
            self.at_fault(read_claim(text), path)
            self.at_fault(("when", read_claim(text), ("table", "t")), (0,) + path)
            self.at_fault(("when", read_claim(text), ("table", "gone")), (0,) + path)
            self.at_fault(("and", read_claim(text), read_claim(CLAIMS[0])), (0,) + path)
            self.at_fault(("or", read_claim(CLAIMS[0]), ("not", read_claim(text))), (1, 0) + path)

    def test_within_each_word(self):
        for text, path in FAULTS:
            inner = read_question(text)
            for word_of_one in (("one",), ("at", "a"), ("times", 3)):
                self.at_fault(word_of_one + (inner,), (0,) + path)
            for word_of_two in ("add", "mul", "both", "same", "under"):
                self.at_fault((word_of_two, inner, num(1)), (0,) + path)
                self.at_fault((word_of_two, num(1), inner), (1,) + path)
            self.at_fault(("when", ("same", num(1), num(1)), inner), (1,) + path)
            self.at_fault(("for", "v", inner, num(1)), (0,) + path)
            self.at_fault(("for", "v", ("table", "t"), inner), (1,) + path)
            self.at_fault(("for", "v", num(1), inner), ())
            self.at_fault(("let", "v", inner, num(1)), (0,) + path)
            self.at_fault(("let", "v", num(1), inner), (1,) + path)
            self.at_fault(row(("a", num(1)), ("b", inner), ("c", num(1))), (1,) + path)

    def test_two_of_them(self):
        for text, path in FAULTS:
            for more, later in FAULTS[::5]:
                one, other = read_question(text), read_question(more)
                for word_of_two in ("add", "mul", "both", "same", "under"):
                    self.at_fault((word_of_two, one, other), (0,) + path)
                self.at_fault(row(("a", one), ("b", other)), (0,) + path)
                self.at_fault(("let", "v", one, other), (0,) + path)
                self.at_fault(("for", "v", one, other), (0,) + path)
                self.at_fault(("when", ("same", one, num(1)), other), (0, 0) + path)
                self.at_fault(("and", ("same", num(1), one), ("same", other, num(1))), (0, 1) + path)

    def test_put_into_drawn_questions(self):
        maker = Maker(13)
        for question, kind, store, change in drawn(14, 250):
            found = list(paths(question))
            path, part = maker.chance.choice(found)
            wrong = maker.chance.choice(FAULTY_CLAIM if part[0] in IS_CLAIM else FAULTY)
            broken = replaced(question, path, wrong)
            self.in_stock(broken, path)
            more, part = maker.chance.choice(found)
            if more[:len(path)] != path and path[:len(more)] != more:
                wrong = maker.chance.choice(FAULTY_CLAIM if part[0] in IS_CLAIM else FAULTY)
                self.in_stock(replaced(broken, more, wrong), min(path, more))

    def test_what_a_for_over_no_bag_binds_in_is_not_looked_at(self):
        seen = 0
        for question, kind, store, change in drawn(15, 250):
            for path, part in paths(question):
                if part[0] == "for":
                    seen += 1
                    no_bag = replaced(question, path + (0,), num(1))
                    self.in_stock(no_bag, path)
                    self.in_stock(replaced(no_bag, path + (1,), ("var", "gone")), path)
        self.assertGreater(seen, 100)

    def in_stock(self, question, path):
        with self.assertRaises(NoKind, msg=question_shown(question)) as caught:
            kind_of(question, {}, STOCK)
        self.assertEqual(caught.exception.path, path, question_shown(question))

    def test_deep(self):
        self.at_fault(nested(1500, lambda inner: ("one", inner), ("var", "gone")), (0,) * 1499)
        self.at_fault(nested(500, lambda inner: ("for", "v", ("table", "n"), inner), num(1)), (1,) * 498)
        one, other = [nested(depth, lambda inner: ("one", inner), num(1)) for depth in (900, 901)]
        self.at_fault(("both", one, other), ())
