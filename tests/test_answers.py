import unittest

from keptnest.asks.answers import answer
from keptnest.asks.questions import question_shown, read_question
from keptnest.data.kinds import is_of
from keptnest.data.texts import read, shown
from keptnest.data.values import added, times
from makers import ASKED_KINDS, NUM, STOCK, WORD, Maker, bag_kind, drawn
from plainly import plain_answer, plain_degree, plain_even, plain_sum
from samples import GREAT, bag, has_form, in_bag, in_row, nested, num, row, word

STORE = {
    "t": read("{<a: 1, b: 'u> * 2, <a: 2, b: 'v> * -1, <a: 3, b: 'u>}"),
    "n": read("{1, 2 * 3, 5 * -2}"),
    "m": read("{1 * -1, 7}"),
    "d": read("{<k: 1, of: {1 * 2, 4}> * 3, <k: 2, of: {}>, <k: 3, of: {1 * -6}>}"),
    "h": read("{{1, 2} * 2, {} * 5, {1 * -2}}"),
    "e": read("{}"),
}
VALUES = {
    "x": num(4), "w": word("v"), "y": read("<a: 9, b: 'w, c: {1 * -1}>"), "z": read("{3, 4 * -2}"), "g": num(GREAT),
}

# Texts of questions, and of their answers in VALUES and STORE.
ANSWERS = (
    ("num -3", "-3"), ("word a", "'a"), ("var x", "4"), ("var y", "<a: 9, b: 'w, c: {1 * -1}>"),
    ("table n", "{1, 2 * 3, 5 * -2}"), ("table e", "{}"), ("row 0", "<>"),
    ("row 3 a var x b word u c table m", "<a: 4, b: 'u, c: {1 * -1, 7}>"),
    ("at a var y", "9"), ("at b var y", "'w"), ("at c var y", "{1 * -1}"),
    ("at b row 3 a num 1 b num 2 c num 3", "2"), ("at c at b row 1 b row 2 a num 1 c num 8", "8"),
    ("add num 2 num -5", "-3"), ("mul num 2 num -5", "-10"), ("add var x mul var x var x", "20"),
    ("add var g var g", str(2 * GREAT)), ("mul var g mul var g num -1", str(-GREAT * GREAT)),
    ("mul num 0 var g", "0"), ("add var g num 1", str(GREAT + 1)),
    ("none num", "{}"), ("none row 1 a bag word", "{}"),
    ("one num 1", "{1}"), ("one table e", "{{}}"), ("one one var w", "{{'v}}"),
    ("one var y", "{<a: 9, b: 'w, c: {1 * -1}>}"),
    ("both table n table m", "{2 * 3, 5 * -2, 7}"), ("both table n table e", "{1, 2 * 3, 5 * -2}"),
    ("both table n times -1 table n", "{}"), ("both one num 1 one num 1", "{1 * 2}"),
    ("both one table n one table n", "{{1, 2 * 3, 5 * -2} * 2}"), ("both none num none num", "{}"),
    ("times 3 table n", "{1 * 3, 2 * 9, 5 * -6}"), ("times -1 table n", "{1 * -1, 2 * -3, 5 * 2}"),
    ("times 0 table n", "{}"), ("times 5 none num", "{}"), ("times 987654321098765432109876543210 table m",
                                                            f"{{1 * -{GREAT}, 7 * {GREAT}}}"),
    ("for r table n one add var r num 10", "{11, 12 * 3, 15 * -2}"),
    ("for r table n one num 0", "{0 * 2}"), ("for r table m one num 0", "{}"), ("for r table n none num", "{}"),
    ("for r table e one num 1", "{}"), ("for r none num one var r", "{}"),
    ("for r table n table m", "{1 * -2, 7 * 2}"), ("for r table m table n", "{}"),
    ("for r table t one at b var r", "{'u * 3, 'v * -1}"), ("for r table n for s table m one mul var r var s",
                                                           "{1 * -1, 2 * -3, 5 * 2, 7, 14 * 3, 35 * -2}"),
    ("for r table d at of var r", "{4 * 3}"), ("for r table h var r", "{2 * 2}"),
    ("for r table d one row 1 n at of var r", "{<n: {}>, <n: {1 * -6}>, <n: {1 * 2, 4}> * 3}"),
    ("for r table d for s at of var r one row 2 k at k var r v var s",
     "{<k: 1, v: 1> * 6, <k: 1, v: 4> * 3, <k: 3, v: 1> * -6}"),
    ("for r var z one var r", "{3, 4 * -2}"), ("for x table m one var x", "{1 * -1, 7}"),
    ("for x for x table n one mul var x var x one add var x num 1", "{2, 5 * 3, 26 * -2}"),
    ("for x table m for x table n one var x", "{}"), ("for r table m for x table e one var x", "{}"),
    ("both for x table n one num 1 one var x", "{1 * 2, 4}"),
    ("when same var x num 4 table m", "{1 * -1, 7}"), ("when same var x num 5 table m", "{}"),
    ("when under num 3 var x table m", "{1 * -1, 7}"), ("when under var x num 4 table m", "{}"),
    ("for r table n when under var r num 3 one var r", "{1, 2 * 3}"),
    ("for r table t when same at b var r word u one at a var r", "{1 * 2, 3}"),
    ("for r table n for s table n when same add var r num 1 var s one row 2 r var r s var s", "{<r: 1, s: 2> * 3}"),
    ("let r num 2 mul var r var r", "4"), ("let r word a row 1 f var r", "<f: 'a>"),
    ("let r table n both var r var r", "{1 * 2, 2 * 6, 5 * -4}"), ("let r var y at c var r", "{1 * -1}"),
    ("let x num 1 var x", "1"), ("let x add var x num 1 var x", "5"), ("add let x num 1 var x var x", "5"),
    ("let x num 1 let x add var x num 1 let x add var x num 1 var x", "3"), ("let r none num one var r", "{{}}"),
    ("let r row 1 f table m for s at f var r one var s", "{1 * -1, 7}"),
    ("for r table n let r mul var r var r one var r", "{1, 4 * 3, 25 * -2}"),
    ("let r for r table n one num 1 for s table m both var r one var s", "{1 * -1, 7}"),
    ("one let r num 1 row 2 a var r b var x", "{<a: 1, b: 4>}"),
)
CLAIMS = (
    ("same num 1 num 1", True), ("same num 1 num -1", False), ("same word a word a", True),
    ("same word a word b", False),
    ("same var w word v", True), ("same var x mul num 2 num 2", True), ("same var g add var g num 1", False),
    ("under num 1 num 2", True), ("under num 2 num 2", False), ("under num 3 num 2", False),
    ("under num -3 num -2", True), ("under num 9 num 10", True), ("under var g add var g num 1", True),
    ("and same num 1 num 1 same num 1 num 1", True), ("and same num 1 num 1 same num 1 num 2", False),
    ("and same num 1 num 2 same num 1 num 1", False), ("and same num 1 num 2 same num 1 num 2", False),
    ("or same num 1 num 1 same num 1 num 1", True), ("or same num 1 num 1 same num 1 num 2", True),
    ("or same num 1 num 2 same num 1 num 1", True), ("or same num 1 num 2 same num 1 num 2", False),
    ("not same num 1 num 1", False), ("not same num 1 num 2", True), ("not not under num 1 num 2", True),
    ("same let r table n num 3 num 3", True), ("under at f row 2 f num 1 g table n num 2", True),
)


def read_claim(text):
    return read_question("when " + text + " table t")[1]


class TestAnswers(unittest.TestCase):
    def test_of_each_word(self):
        for text, wanted in ANSWERS:
            self.assertEqual(shown(answer(read_question(text), VALUES, STORE)), wanted, text)

    def test_claims(self):
        for text, wanted in CLAIMS:
            claim = read_claim(text)
            self.assertIs(answer(claim, VALUES, STORE), wanted, text)
            self.assertEqual(answer(("when", claim, ("table", "n")), VALUES, STORE), STORE["n"] if wanted else bag())
            self.assertIs(answer(("not", claim), VALUES, STORE), not wanted)

    def test_each_within_others(self):
        for text, wanted in ANSWERS:
            value, question = read(wanted), read_question(text)
            self.assertEqual(answer(("one", question), VALUES, STORE), in_bag(value))
            self.assertEqual(answer(row(("f", question)), VALUES, STORE), in_row(value))
            self.assertEqual(answer(("at", "f", row(("f", question))), VALUES, STORE), value)
            self.assertEqual(answer(("let", "v", question, ("one", ("var", "v"))), VALUES, STORE), in_bag(value))
            self.assertEqual(answer(("for", "v", ("one", question), ("one", ("var", "v"))), VALUES, STORE),
                             in_bag(value))

    def test_drawn(self):
        for question, kind, store, change in drawn(21, 500):
            told = answer(question, {}, store)
            self.assertEqual(told, plain_answer(question, {}, store), question_shown(question))
            self.assertTrue(has_form(told))
            self.assertIs(is_of(told, kind), True)

    def test_drawn_with_variables(self):
        maker = Maker(22)
        kinds = {"x": NUM, "y": STOCK["s"], "z": bag_kind(NUM), "a": WORD, "b": STOCK["deep"]}
        for turn in range(400):
            values = {name: maker.value(kind) for name, kind in kinds.items()}
            store = maker.store(STOCK)
            kind = maker.chance.choice(ASKED_KINDS)
            question = maker.question(kind, kinds, STOCK, maker.chance.randrange(1, 6))
            told = answer(question, values, store)
            self.assertEqual(told, plain_answer(question, values, store))
            self.assertIs(is_of(told, kind), True)
            claim = maker.claim(kinds, STOCK, 4)
            self.assertIs(answer(claim, values, store), plain_answer(claim, values, store))

    def test_tables_of_forty_rows(self):
        forty = ("bag", tuple((num(k), k - 20 or 1) for k in range(40)))
        store = {"n": forty, "m": ("bag", tuple((num(k), 1) for k in range(0, 80, 2)))}
        for text in ("for r table n for s table m when same var r var s one var r",
                     "for r table n for s table m when under var r var s one add var r var s",
                     "for r table n one row 2 k var r of for s table m when under var s var r one var s"):
            question = read_question(text)
            self.assertEqual(answer(question, {}, store), plain_answer(question, {}, store))

    def test_counts_are_products(self):
        question = read_question("for r table n for s table m for v table n one row 3 a var r b var s c var v")
        told = dict(answer(question, {}, STORE)[1])
        for one, count in STORE["n"][1]:
            for other, more in STORE["m"][1]:
                for third, most in STORE["n"][1]:
                    self.assertEqual(told[row(("a", one), ("b", other), ("c", third))], count * more * most)

    def test_great_counts(self):
        store = {"n": bag((num(1), GREAT), (num(2), -GREAT)), "m": bag((num(3), GREAT))}
        question = read_question("for r table n for s table m for v table m one mul var r mul var s var v")
        self.assertEqual(answer(question, {}, store), bag((num(9), GREAT ** 3), (num(18), -GREAT ** 3)))

    def test_what_is_handed_in_stays_and_the_same_is_told_again(self):
        values, store = dict(VALUES), dict(STORE)
        for text, wanted in ANSWERS:
            question = read_question(text)
            told = [answer(question, values, store) for turn in range(2)]
            self.assertEqual(told[0], told[1])
            self.assertEqual((values, store), (VALUES, STORE))
            self.assertEqual((list(values), list(store)), (list(VALUES), list(STORE)))
            self.assertEqual(question, read_question(text))
        values.clear()
        store.clear()
        self.assertEqual(shown(told[0]), wanted)

    def test_deep(self):
        deep = answer(nested(1500, lambda inner: ("one", inner), num(1)), {}, {})
        self.assertEqual(shown(deep), "{" * 1499 + "1" + "}" * 1499)
        twice = answer(("both", ("one", ("var", "x")), ("one", ("var", "x"))), {"x": deep}, {})
        self.assertEqual(shown(twice), "{" + shown(deep) + " * 2}")
        chain = nested(1000, lambda inner: ("both", ("one", num(1)), inner), ("one", num(2)))
        self.assertEqual(shown(answer(chain, {}, {})), "{1 * 999, 2}")
        for binder in ("for", "let"):
            chain = nested(800, lambda inner: (binder, "x", ("one", ("var", "x")), inner), ("one", num(1)))
            self.assertEqual(shown(answer(chain, {"x": num(1)}, {})), "{1}")
        claim = nested(1001, lambda inner: ("not", inner), ("same", num(1), num(1)))
        self.assertIs(answer(claim, {}, {}), True)


class TestEvenHanded(unittest.TestCase):
    """[15]: with tables the sums of two bags, or times a number, the answers go as the degree tells."""

    def less_constant(self, question, store, names):
        empty = {**store, **{name: bag() for name in names}}
        return plain_sum(answer(question, {}, store), answer(question, {}, empty), -1)

    def test_of_degree_one_sums_and_products(self):
        for question, names, store, maker in self.drawn_of_degree(1, 31, 150):
            more = {name: maker.bag(STOCK[name], 3) for name in names}
            one, other = [self.less_constant(question, {**store, **part}, names) for part in ({}, more)]
            both = {name: added(store[name], more[name]) for name in names}
            self.assertEqual(self.less_constant(question, {**store, **both}, names), plain_sum(one, other))
            for k in (-3, -1, 0, 2, GREAT):
                told = self.less_constant(question, self.scaled(store, names, k), names)
                self.assertEqual(told, times(one, k))

    def test_of_degree_nought_nothing_goes(self):
        for question, names, store, maker in self.drawn_of_degree(0, 32, 100):
            told = answer(question, {}, store)
            self.assertEqual(answer(question, {}, self.scaled(store, names, 3)), told)
            more = {name: maker.bag(STOCK[name], 3) for name in names}
            self.assertEqual(answer(question, {}, {**store, **more}), told)

    def test_of_any_degree_by_repeated_steps(self):
        # What is of degree n in k: its steps by k, taken n + 1 times, come to nothing.
        for wanted in (1, 2, 3):
            for question, names, store, maker in self.drawn_of_degree(wanted, 33 + wanted, 30):
                told = [answer(question, {}, self.scaled(store, names, k)) for k in range(wanted + 2)]
                for turn in range(wanted + 1):
                    told = [plain_sum(later, ahead, -1) for ahead, later in zip(told, told[1:])]
                self.assertEqual(told, [bag()])

    def test_of_a_product_of_a_table_with_itself(self):
        question = read_question("for r table n for s table n one add var r var s")
        for k in (-2, 0, 3):
            self.assertEqual(answer(question, {}, self.scaled(STORE, ["n"], k)),
                             times(answer(question, {}, STORE), k * k))

    def test_of_a_product_of_two_tables(self):
        question = read_question("for r table n for s table m one add var r var s")
        sums = {"n": added(STORE["n"], read("{3 * 2, 5}")), "m": STORE["m"]}
        more = answer(question, {}, {"n": read("{3 * 2, 5}"), "m": STORE["m"]})
        self.assertEqual(answer(question, {}, sums), added(answer(question, {}, STORE), more))

    def scaled(self, store, names, k):
        return {**store, **{name: times(store[name], k) for name in names}}

    def drawn_of_degree(self, wanted, seed, many):
        maker, found, more = Maker(seed), 0, seed
        while found < many:
            more += 1000
            for question, kind, store, change in drawn(more, 100):
                names = maker.chance.sample(sorted(STOCK), maker.chance.randrange(1, len(STOCK) + 1))
                if plain_even(question) and plain_degree(question, names) == wanted and found < many:
                    found += 1
                    yield question, names, store, maker
