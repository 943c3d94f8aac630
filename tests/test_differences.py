import unittest

from keptnest.asks.answers import answer
from keptnest.asks.kinds import kind_of
from keptnest.asks.questions import question_shown, read_question, tables
from keptnest.changes.differences import changed, difference
from keptnest.data.texts import read
from keptnest.errors import NoDifference
from makers import ASKED_KINDS, NUM, STOCK, WORD, Maker, bag_kind, drawn, row_of
from plainly import plain_difference, plain_sum
from samples import GREAT, bag, nested, num

ROW = row_of(("a", NUM), ("b", WORD))
TABLES = {"n": NUM, "m": NUM, "o": NUM, "t": ROW, "d": row_of(("k", NUM), ("of", bag_kind(NUM))), "h": bag_kind(NUM)}
KINDS = {"x": NUM, "z": bag_kind(NUM), "v": row_of(("of", bag_kind(NUM))), "g": bag_kind(bag_kind(NUM))}
# The tables n, t and h change.
NAMES = {"n": "dn", "t": "dt", "h": "dh"}
BY_NAMES = {
    "table": (
        ("table n", "table dn"), ("table t", "table dt"), ("table h", "table dh"),
        ("table m", "none num"), ("table d", "none row 2 k num of bag num"),
    ),
    "none": (
        ("none num", "none num"), ("none row 1 a bag word", "none row 1 a bag word"), ("none bag num", "none bag num"),
    ),
    "both": (
        ("both table n table n", "both table dn table dn"), ("both table n table m", "table dn"),
        ("both table m table n", "table dn"), ("both table m table o", "none num"),
        ("both both table n table m table n", "both table dn table dn"),
        ("both both table n table n both table n table n", "both both table dn table dn both table dn table dn"),
        ("both both table n table n table n", "both both table dn table dn table dn"),
        ("both table n both table n table n", "both table dn both table dn table dn"),
        ("both none num table n", "table dn"), ("both var z table n", "table dn"),
    ),
    "times": (
        ("times 3 table n", "times 3 table dn"), ("times 0 table n", "times 0 table dn"),
        ("times -1 table m", "none num"), ("times 1 times 2 table n", "times 1 times 2 table dn"),
        ("times 5 both table m table n", "times 5 table dn"), ("times 7 when same num 1 num 1 table m", "none num"),
    ),
    "when": (
        ("when same var x num 1 table n", "when same var x num 1 table dn"),
        ("when same var x num 1 table m", "none num"),
        ("when same let r table n num 1 num 1 table n", "when same let r table n num 1 num 1 table dn"),
        ("when same let r table n num 1 num 1 table m", "none num"),
        ("when not under num 1 at f row 2 f num 1 g table t both table n table m",
         "when not under num 1 at f row 2 f num 1 g table t table dn"),
    ),
    "for": (
        # Both change: all three; the one; the other; neither.
        ("for r table n table n", "both both for r table dn table n for r table n table dn for r table dn table dn"),
        ("for r table t table n", "both both for r table dt table n for r table t table dn for r table dt table dn"),
        ("for r table n one var r", "for r table dn one var r"), ("for r table n table m", "for r table dn table m"),
        ("for r table m table n", "for r table m table dn"), ("for r table m one var r", "none num"),
        ("for r table m table o", "none num"), ("for r table t one at b var r", "for r table dt one at b var r"),
        # Of none and over none.
        ("for r table n none word", "none word"), ("for r none num table n", "none num"),
        ("for r none num for s table n table n", "none num"), ("for r for s table n none word table n",
                                                              "for r for s table n none word table dn"),
        ("for r table m for s table n none word", "none word"), ("for r table n for s table m none word",
                                                                "for r table dn for s table m none word"),
        ("for r table n for s none num table n", "for r table dn for s none num table n"),
        ("for r table n when same num 1 num 1 none num", "for r table dn when same num 1 num 1 none num"),
        # One within another.
        ("for r table n for s table m one add var r var s", "for r table dn for s table m one add var r var s"),
        ("for r table m for s table n one add var r var s", "for r table m for s table dn one add var r var s"),
        ("for r table n for s table n one var s",
         "both both for r table dn for s table n one var s for r table n for s table dn one var s "
         "for r table dn for s table dn one var s"),
        ("for r for s table n one var s one var r", "for r for s table dn one var s one var r"),
        ("for r both table n table m both table n one var r",
         "both both for r table dn both table n one var r for r both table n table m table dn for r table dn table dn"),
        ("for r table d at of var r", "none num"), ("for r table h var r", "for r table dh var r"),
        ("for r table h both var r table n",
         "both both for r table dh both var r table n for r table h table dn for r table dh table dn"),
    ),
    "one": (
        ("one num 1", "none num"), ("one table m", "none bag num"),
        ("one table n", "both one both table n table dn times -1 one table n"),
        ("one row 2 a table m b table n",
         "both one row 2 a table m b both table n table dn times -1 one row 2 a table m b table n"),
        ("one let r table n num 1", "both one let r both table n table dn num 1 times -1 one let r table n num 1"),
        ("one for r table t one at a var r",
         "both one for r both table t table dt one at a var r times -1 one for r table t one at a var r"),
        ("one one table n", "both one one both table n table dn times -1 one one table n"),
        ("for r table m one row 2 k var r of table n",
         "for r table m both one row 2 k var r of both table n table dn times -1 one row 2 k var r of table n"),
        ("for r table n one table n",
         "both both for r table dn one table n "
         "for r table n both one both table n table dn times -1 one table n "
         "for r table dn both one both table n table dn times -1 one table n"),
        ("one when same let r table t num 1 num 1 table h",
         "both one when same let r both table t table dt num 1 num 1 both table h table dh "
         "times -1 one when same let r table t num 1 num 1 table h"),
    ),
    "let": (
        ("let r table m table n", "let r table m table dn"), ("let r num 1 table n", "let r num 1 table dn"),
        ("let r table m var r", "none num"), ("let r none num table n", "let r none num table dn"),
        ("let r table m for s table n both var r one var s",
         "let r table m for s table dn both var r one var s"),
        ("let r table n var r", "both let r both table n table dn var r times -1 let r table n var r"),
        ("let r table n table m", "both let r both table n table dn table m times -1 let r table n table m"),
        ("let r table n table t",
         "both let r both table n table dn both table t table dt times -1 let r table n table t"),
        ("let r table m let s table n both var r var s",
         "let r table m both let s both table n table dn both var r var s times -1 let s table n both var r var s"),
        ("let r word a let s num 1 table m", "none num"),
    ),
    "at": (
        ("at of var v", "none num"), ("at f row 1 f table m", "none num"),
        ("at f row 1 f table n", "both at f row 1 f both table n table dn times -1 at f row 1 f table n"),
        ("at f row 2 f table m g table t",
         "both at f row 2 f table m g both table t table dt times -1 at f row 2 f table m g table t"),
        ("both at f row 1 f table n table n",
         "both both at f row 1 f both table n table dn times -1 at f row 1 f table n table dn"),
    ),
    "var": (("var z", "none num"), ("var g", "none bag num")),
}
NO_BAGS = (
    "num 1", "word a", "var x", "var v", "row 0", "row 1 a table n", "at a row 1 a num 1",
    "at a row 2 a num 1 b table n",
    "add num 1 num 2", "mul var x num 2", "let r table n num 1", "let r num 1 row 1 a var r",
    "let r table n row 1 a var r",
)
CLAIMS = ("same num 1 num 1", "under var x num 1", "not same word a word b", "and same num 1 num 1 same num 1 num 1",
          "or same num 1 num 1 same num 1 num 1", "same let r table n num 1 num 1")


def put_in(store, change, names):
    return {**store, **{names[name]: rows for name, rows in change.items()}}


class TestChanged(unittest.TestCase):
    STORE = {"n": read("{1, 2 * 3}"), "m": read("{7 * -1}"), "e": read("{}")}

    def test_of_some_of_none_and_of_all(self):
        store = self.STORE
        self.assertEqual(changed(store, {}), store)
        self.assertEqual(changed(store, {"n": read("{1, 3}")}), {**store, "n": read("{1 * 2, 2 * 3, 3}")})
        self.assertEqual(changed(store, {"e": read("{1 * -4}")}), {**store, "e": read("{1 * -4}")})
        told = changed(store, {"m": read("{7 * 3}"), "n": read("{2 * -1}"), "e": read("{'a}")})
        self.assertEqual(told, {"n": read("{1, 2 * 2}"), "m": read("{7 * 2}"), "e": read("{'a}")})

    def test_counts_that_come_to_nought_go(self):
        told = changed(self.STORE, {"n": read("{1 * -1}"), "m": read("{7}")})
        self.assertEqual(told, {"n": read("{2 * 3}"), "m": bag(), "e": bag()})

    def test_empty_changes(self):
        self.assertEqual(changed(self.STORE, {"n": bag(), "e": bag()}), self.STORE)
        self.assertEqual(changed({}, {}), {})

    def test_great_counts(self):
        great = {"n": bag((num(1), GREAT))}
        self.assertEqual(changed(great, great), {"n": bag((num(1), 2 * GREAT))})

    def test_nothing_handed_in_changes_and_what_is_told_is_its_own(self):
        store, change = dict(self.STORE), {"n": read("{5}")}
        told = changed(store, change)
        self.assertEqual((store, change), (self.STORE, {"n": read("{5}")}))
        wanted = dict(told)
        store.clear()
        change["n"] = bag()
        self.assertEqual(told, wanted)
        store, change = dict(self.STORE), {}
        told = changed(store, change)
        told["n"] = bag()
        told["new"] = bag()
        self.assertEqual(store, self.STORE)
        self.assertEqual(change, {})


class TestByHand(unittest.TestCase):
    def told(self, text, names=NAMES, kinds=KINDS, stock=TABLES):
        return question_shown(difference(read_question(text), names, kinds, stock))

    def test_of_each_word(self):
        for word_told, cases in BY_NAMES.items():
            for text, wanted in cases:
                self.assertEqual(self.told(text), wanted, text)
                read_question(wanted)

    def test_each_within_what_leaves_it_as_it_is(self):
        for cases in BY_NAMES.values():
            for text, wanted in cases:
                kind = question_shown(("none", kind_of(read_question(text), KINDS, TABLES)[1]))
                for ahead in ("times 2 ", "when same num 1 num 1 ", "let q num 1 ", "for q table m "):
                    self.assertEqual(self.told(ahead + text), wanted if wanted == kind else ahead + wanted)
                self.assertEqual(self.told(f"both {text} {kind}"), wanted)
                self.assertEqual(self.told(f"both {kind} {text}"), wanted)
                twice = wanted if wanted == kind else f"both {wanted} {wanted}"
                self.assertEqual(self.told(f"both {text} {text}"), twice)
                self.assertEqual(self.told(f"for q {text} one word a"),
                                 "none word" if wanted == kind else f"for q {wanted} one word a")
                self.assertEqual(self.told(f"for q table n {text}"), self.through_n(text, wanted, kind))

    def through_n(self, text, wanted, kind):
        first = "for q table dn " + text
        if text == kind:
            return kind
        if wanted == kind:
            return first
        return f"both both {first} for q table n {wanted} for q table dn {wanted}"

    def test_where_nothing_changes(self):
        for cases in BY_NAMES.values():
            for text, wanted in cases:
                kind = kind_of(read_question(text), KINDS, TABLES)
                for names in ({}, {"o": "do"} if "table o" not in text else {}, {"q": "dq"}):
                    self.assertEqual(self.told(text, names), question_shown(("none", kind[1])))

    def test_one_of_two_tables(self):
        text = "for r table n both table t for s table h table t"
        self.assertEqual(self.told(text, {"h": "a"}), "for r table n for s table a table t")
        self.assertEqual(self.told(text, {"n": "b"}), "for r table b both table t for s table h table t")
        self.assertEqual(self.told(text, {"t": "c"}), "for r table n both table c for s table h table c")

    def test_of_a_bag_of_rows_with_bags(self):
        self.assertEqual(self.told("for r table t one row 2 k at a var r of table n", {"t": "dt"}),
                         "for r table dt one row 2 k at a var r of table n")

    def test_new_names_that_the_stock_has_already(self):
        stock = {**TABLES, "dn": NUM, "dt": ROW, "dh": bag_kind(NUM)}
        for cases in BY_NAMES.values():
            for text, wanted in cases:
                self.assertEqual(self.told(text, stock=stock), wanted)

    def test_a_name_of_a_table_may_be_a_variables_too(self):
        self.assertEqual(self.told("for n table n one var n"), "for n table dn one var n")
        self.assertEqual(self.told("let n table m both var n table n"), "let n table m table dn")
        kinds = {"n": NUM, "t": row_of(("n", NUM))}
        for text in ("one row 2 a {} n var n", "one row 2 a {} b at n var t", "one row 3 a {} b word n t num 1",
                     "for n table m one row 2 a {} b var n", "one let n num 1 row 2 a {} b var n",
                     "one for n {} one row 1 n var n", "at n row 2 h word t n {}"):
            outer = "for n table m " if text.startswith("for") else ""
            inner = text[len(outer):]
            told = outer + "both " + inner.format("both table n table dn") + " times -1 " + inner.format("table n")
            self.assertEqual(self.told(text.format("table n"), kinds=kinds), told)

    def test_the_dicts_stay(self):
        names, kinds, stock = dict(NAMES), dict(KINDS), dict(TABLES)
        for cases in BY_NAMES.values():
            for text, wanted in cases:
                self.told(text, names, kinds, stock)
                self.assertEqual((names, kinds, stock), (NAMES, KINDS, TABLES))
                self.assertEqual((list(names), list(kinds), list(stock)), (list(NAMES), list(KINDS), list(TABLES)))

    def test_deep(self):
        chain = nested(800, lambda inner: ("both", ("table", "m"), ("times", 1, inner)), ("table", "n"))
        self.assertEqual(question_shown(difference(chain, NAMES, {}, TABLES)), "times 1 " * 799 + "table dn")
        ones = nested(800, lambda inner: ("one", inner), ("table", "n"))
        wanted = "both " + "one " * 799 + "both table n table dn times -1 " + "one " * 799 + "table n"
        self.assertEqual(question_shown(difference(ones, NAMES, {}, TABLES)), wanted)
        loops = nested(800, lambda inner: ("for", "x", ("table", "m"), inner), ("table", "n"))
        self.assertEqual(question_shown(difference(loops, NAMES, {}, TABLES)), "for x table m " * 799 + "table dn")


class TestDrawn(unittest.TestCase):
    def names_for(self, change):
        return {name: "d" + name for name in change}

    def test_as_it_is_told_word_by_word(self):
        for question, kind, store, change in drawn(41, 600):
            names = self.names_for(change)
            told = difference(question, names, {}, STOCK)
            self.assertEqual(told, plain_difference(question, names, {}, STOCK), question_shown(question))

    def test_the_answer_behind_less_that_ahead(self):
        seen = 0
        for question, kind, store, change in drawn(42, 600):
            names = self.names_for(change)
            told = difference(question, names, {}, STOCK)
            more = answer(told, {}, put_in(store, change, names))
            ahead, behind = answer(question, {}, store), answer(question, {}, changed(store, change))
            self.assertEqual(more, plain_sum(behind, ahead, -1), question_shown(question))
            seen += more != bag()
            stock = {**STOCK, **{new: STOCK[old] for old, new in names.items()}}
            self.assertEqual(kind_of(told, {}, stock), kind)
        self.assertGreater(seen, 100)

    def test_with_variables(self):
        maker = Maker(43)
        kinds = {"x": NUM, "y": STOCK["s"], "z": bag_kind(NUM), "a": WORD, "b": STOCK["deep"]}
        for turn in range(300):
            question = maker.question(bag_kind(maker.chance.choice(ASKED_KINDS)), kinds, STOCK, 4)
            values = {name: maker.value(kind) for name, kind in kinds.items()}
            store, change = maker.store(STOCK), maker.change(STOCK)
            names = self.names_for(change)
            told = difference(question, names, kinds, STOCK)
            self.assertEqual(told, plain_difference(question, names, kinds, STOCK))
            more = answer(told, values, put_in(store, change, names))
            ahead, behind = answer(question, values, store), answer(question, values, changed(store, change))
            self.assertEqual(more, plain_sum(behind, ahead, -1))

    def test_of_those_by_hand(self):
        maker = Maker(44)
        for cases in BY_NAMES.values():
            for text, wanted in cases:
                for turn in range(5):
                    question = read_question(text)
                    values = {name: maker.value(kind) for name, kind in KINDS.items()}
                    store = maker.store(TABLES)
                    change = {name: maker.bag(TABLES[name], 3) for name in NAMES}
                    more = answer(read_question(wanted), values, put_in(store, change, NAMES))
                    behind = answer(question, values, changed(store, change))
                    self.assertEqual(more, plain_sum(behind, answer(question, values, store), -1), text)

    def test_no_old_names_are_lost_and_no_others_come(self):
        for question, kind, store, change in drawn(45, 200):
            names = self.names_for(change)
            told = set(tables(difference(question, names, {}, STOCK)))
            self.assertLessEqual(told, set(tables(question)) | set(names.values()))


class TestRefused(unittest.TestCase):
    def refused(self, question, names, kinds=KINDS, stock=TABLES):
        with self.assertRaises(NoDifference, msg=question_shown(question)) as caught:
            difference(question, names, kinds, stock)
        self.assertIs(type(caught.exception), NoDifference)

    def test_what_is_no_bag(self):
        for text in NO_BAGS:
            for names in (NAMES, {}, {"n": "dn"}, {"m": "dm"}):
                self.refused(read_question(text), names)

    def test_claims(self):
        for text in CLAIMS:
            for names in (NAMES, {}):
                self.refused(read_question("when " + text + " table t")[1], names)

    def test_what_has_no_kind(self):
        for text in ("table gone", "var gone", "both table n num 1", "for r num 1 table n", "times 1 num 1",
                     "at f table n", "let r var gone table n"):
            self.refused(read_question(text), NAMES)

    def test_drawn(self):
        maker = Maker(46)
        for turn in range(200):
            kind = maker.chance.choice([kind for kind in ASKED_KINDS if kind[0] != "bag"])
            question = maker.question(kind, {}, STOCK, maker.chance.randrange(1, 6))
            for names in ({name: "d" + name for name in STOCK}, {}):
                self.refused(question, names, {}, STOCK)
            self.refused(maker.claim({}, STOCK, 4), {"t": "dt"}, {}, STOCK)
