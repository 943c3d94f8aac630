import unittest

from keptnest.asks.answers import answer
from keptnest.asks.kinds import kind_of
from keptnest.asks.questions import question_shown, read_question
from keptnest.data.kinds import is_flat
from keptnest.data.texts import read, shown
from keptnest.errors import NoFlat
from keptnest.flat.stitch import flat, stitched
from makers import NUM, PLAIN_STOCK, WORD, Maker, bag_kind, drawn, row_of
from plainly import plain_answer, plain_kind
from samples import NOT_FLAT, TAKEN_WORDS, bag, has_form, num

NEST = "for r table t one row 2 a at a var r of for s table n when under var s at a var r one var s"
# Questions with what stands at each address.
FLAT = (
    ("none num", {}), ("times 0 table n", {}), ("for x none num one one var x", {}),
    ("one num 1", {(0,): "times 1 one row 2 key row 0 val num 1"}),
    ("times -3 one num 1", {(0,): "times -3 one row 2 key row 0 val num 1"}),
    ("table n", {(0,): "for aa table n times 1 one row 2 key row 1 aa var aa val var aa"}),
    ("for x table n for y table m when under var x var y one row 2 p var y q var x", {
        (0,): "for aa table n for ab table m when under var aa var ab times 1 "
              "one row 2 key row 2 aa var aa ab var ab val row 2 p var ab q var aa"}),
    ("both one num 1 times 2 for x table n one var x", {
        (0,): "times 1 one row 2 key row 0 val num 1",
        (1,): "for aa table n times 2 one row 2 key row 1 aa var aa val var aa"}),
    # Claims are joined from the left, wherever they stand.
    ("when and same num 1 num 1 and same num 2 num 2 same num 3 num 3 one num 4", {
        (0,): "when and and same num 1 num 1 same num 2 num 2 same num 3 num 3 times 1 one row 2 key row 0 val num 4"}),
    (NEST, {
        (0,): "for aa table t times 1 one row 2 key row 1 aa var aa val row 2 a at a var aa of row 0",
        (0, ("of",), 0): "for aa table t for ab table n when under var ab at a var aa times 1 "
                         "one row 2 key row 2 aa var aa ab var ab val var ab"}),
    # Of one name the last is meant, in claims and row; all are unlike.
    ("for x table n for x table m when same var x num 1 one var x", {
        (0,): "for aa table n for ab table m when same var ab num 1 times 1 "
              "one row 2 key row 2 aa var aa ab var ab val var ab"}),
    ("for x table n one row 2 of for x table m when same var x num 2 one var x v var x", {
        (0,): "for aa table n times 1 one row 2 key row 1 aa var aa val row 2 of row 0 v var aa",
        (0, ("of",), 0): "for aa table n for ab table m when same var ab num 2 times 1 "
                         "one row 2 key row 2 aa var aa ab var ab val var ab"}),
    # Names of the question are no matter, those of gens among them.
    ("for ab table n for aa table m one row 1 of one add var aa var ab", {
        (0,): "for aa table n for ab table m times 1 one row 2 key row 2 aa var aa ab var ab val row 1 of row 0",
        (0, ("of",), 0): "for aa table n for ab table m times 1 "
                         "one row 2 key row 2 aa var aa ab var ab val add var ab var aa"}),
    # Rows that are bags themselves, bags within bags, and none.
    ("one table n", {
        (0,): "times 1 one row 2 key row 0 val row 0",
        (0, (), 0): "for aa table n times 1 one row 2 key row 1 aa var aa val var aa"}),
    ("times 2 one times 3 one times 5 one num 1", {
        (0,): "times 2 one row 2 key row 0 val row 0", (0, (), 0): "times 6 one row 2 key row 0 val row 0",
        (0, (), 0, (), 0): "times 30 one row 2 key row 0 val num 1"}),
    ("one none num", {(0,): "times 1 one row 2 key row 0 val row 0"}),
    ("one row 2 a none word b times 0 table n", {(0,): "times 1 one row 2 key row 0 val row 2 a row 0 b row 0"}),
    # Rows within rows, several bags, several branches; the claims and numbers around go along.
    ("times 2 for x table n when same var x num 1 one row 3 b row 2 c both table m one num 7 d var x "
     "e times -1 one var x f row 0", {
        (0,): "for aa table n when same var aa num 1 times 2 "
              "one row 2 key row 1 aa var aa val row 3 b row 2 c row 0 d var aa e row 0 f row 0",
        (0, ("b", "c"), 0): "for aa table n for ab table m when same var aa num 1 times 2 "
                            "one row 2 key row 2 aa var aa ab var ab val var ab",
        (0, ("b", "c"), 1): "for aa table n when same var aa num 1 times 2 one row 2 key row 1 aa var aa val num 7",
        (0, ("e",), 0): "for aa table n when same var aa num 1 times -2 one row 2 key row 1 aa var aa val var aa"}),
    ("for x table n one row 1 of for y table m when under var x var y one row 2 k var y of "
     "for z table o when and same var z var x same var z var y one var z", {
        (0,): "for aa table n times 1 one row 2 key row 1 aa var aa val row 1 of row 0",
        (0, ("of",), 0): "for aa table n for ab table m when under var aa var ab times 1 "
                         "one row 2 key row 2 aa var aa ab var ab val row 2 k var ab of row 0",
        (0, ("of",), 0, ("of",), 0):
            "for aa table n for ab table m for ac table o "
            "when and and under var aa var ab same var ac var aa same var ac var ab times 1 "
            "one row 2 key row 3 aa var aa ab var ab ac var ac val var ac"}),
    # What is shortened here.
    ("for x both table n table m one row 1 of let q one var x both var q var q", {
        (0,): "for aa table n times 1 one row 2 key row 1 aa var aa val row 1 of row 0",
        (0, ("of",), 0): "for aa table n times 1 one row 2 key row 1 aa var aa val var aa",
        (0, ("of",), 1): "for aa table n times 1 one row 2 key row 1 aa var aa val var aa",
        (1,): "for aa table m times 1 one row 2 key row 1 aa var aa val row 1 of row 0",
        (1, ("of",), 0): "for aa table m times 1 one row 2 key row 1 aa var aa val var aa",
        (1, ("of",), 1): "for aa table m times 1 one row 2 key row 1 aa var aa val var aa"}),
)
TABLES = {"n": NUM, "m": NUM, "o": NUM, "t": row_of(("a", NUM), ("b", WORD))}
STORES = (
    {"n": read("{1, 2 * 3}"), "m": read("{1 * 2, 2 * -1, 5}"), "o": read("{1, 5 * -2}"),
     "t": read("{<a: 1, b: 'u> * 2, <a: 2, b: 'v> * -1, <a: 9, b: 'v>}")},
    {"n": bag(), "m": read("{1}"), "o": bag(), "t": read("{<a: 0, b: 'u> * -1}")},
    {name: bag() for name in TABLES},
)


class TestFlat(unittest.TestCase):
    def test_by_hand(self):
        for text, wanted in FLAT:
            told = flat(read_question(text))
            self.assertIsInstance(told, list)
            self.assertEqual([(address, question_shown(question)) for address, question in told], list(wanted.items()))
            self.assertEqual(sorted(wanted), list(wanted))

    def test_names_in_their_order(self):
        names = ["a" + letter for letter in "abcdefghijklmnopqrsuvwxyz"] + ["b" + letter for letter in "abcde"]
        self.assertEqual([name for name in names if name in TAKEN_WORDS], [])
        question = "one add " + "var q " * 2
        for turn in range(30):
            question = "for q table n " + question
        (address, told), = flat(read_deep(question.strip()))
        key = " ".join(f"{name} var {name}" for name in names)
        self.assertEqual(question_shown(told), " ".join(f"for {name} table n" for name in names)
                         + f" times 1 one row 2 key row 30 {key} val add var be var be")

    def test_a_hundred_gens(self):
        question = ("one", ("var", "x"))
        for turn in range(100):
            question = ("for", "x", ("table", "n"), question)
        (address, told), = flat(question)
        last = question_shown(told).split(" ")[-1]
        self.assertEqual(last, "dw")
        store = {"n": bag((num(4), -2))}
        self.assertEqual(stitched(question, {address: answer(told, {}, store)}), bag((num(4), 2 ** 100)))

    def test_the_kind_is_plain(self):
        for text, wanted in FLAT:
            for address, question in flat(read_question(text)):
                kind = kind_of(question, {}, TABLES)
                self.assertEqual(kind[0], "bag")
                self.assertTrue(is_flat(kind[1]))

    def test_where_a_for_goes_over_another_thing(self):
        for text in NOT_FLAT:
            for whole in (text, "one " + text, "for q table n one row 1 of " + text, "both table n one one " + text):
                with self.assertRaises(NoFlat, msg=whole) as caught:
                    flat(read_question(whole))
                self.assertIs(type(caught.exception), NoFlat)


def read_deep(text):
    """A question of for's over tables one within another, deeper than a text may be."""
    words = text.split(" ")
    if words[0] == "for":
        return ("for", words[1], ("table", words[3]), read_deep(" ".join(words[4:])))
    return read_question(text)


def answers_of(question, store):
    return {address: plain_answer(told, {}, store) for address, told in flat(question)}


class TestStitched(unittest.TestCase):
    def test_by_hand(self):
        question = read_question(NEST)
        answers = {
            (0,): read("{<key: <aa: <a: 1, b: 'u>>, val: <a: 1, of: <>>> * 2, "
                       "<key: <aa: <a: 3, b: 'u>>, val: <a: 3, of: <>>> * -1}"),
            (0, ("of",), 0): read("{<key: <aa: <a: 3, b: 'u>, ab: 1>, val: 1> * -5, "
                                  "<key: <aa: <a: 3, b: 'u>, ab: 2>, val: 2> * 3}"),
        }
        self.assertEqual(shown(stitched(question, answers)), "{<a: 1, of: {}> * 2, <a: 3, of: {1 * 5, 2 * -3}> * -1}")

    def test_each(self):
        for text, wanted in FLAT:
            question = read_question(text)
            for store in STORES:
                answers = answers_of(question, store)
                told = stitched(question, answers)
                self.assertEqual(told, plain_answer(question, {}, store), text)
                self.assertTrue(has_form(told))
                self.assertEqual(answers, answers_of(question, store))

    def test_counts_that_come_to_nought(self):
        for text, wanted in (
            ("both table n times -1 table n", "{}"),
            ("one both table n times -1 table n", "{{}}"),
            ("for x table n one row 1 of both one var x times -1 one var x", "{<of: {}> * 4}"),
            ("for x table m one row 0", "{<> * 2}"), ("for x table m one row 1 of for y table m one row 0",
                                                      "{<of: {<> * 2}> * 2}"),
            ("for x table n one row 1 of for y table m when under num 3 var y one num 0", "{<of: {0}> * 4}"),
            ("for x table m one for y table n when under num 9 var y one num 0", "{{} * 2}"),
            ("for x table m for y table n one times -1 for z table m when same var z var x one var z",
             "{{1 * -2} * 8, {2} * -4, {5 * -1} * 4}"),
        ):
            question = read_question(text)
            told = stitched(question, answers_of(question, STORES[0]))
            self.assertEqual(shown(told), wanted)
            self.assertEqual(told, plain_answer(question, {}, STORES[0]))

    def test_drawn(self):
        nested, kept = 0, 0
        for question, kind, store, change in drawn(92, 700, stock=PLAIN_STOCK):
            told = flat(question)
            answers = {}
            for address, part in told:
                self.assertTrue(is_flat(plain_kind(part, {}, PLAIN_STOCK)[1]))
                self.assertEqual(kind_of(part, {}, PLAIN_STOCK), plain_kind(part, {}, PLAIN_STOCK))
                answers[address] = plain_answer(part, {}, store)
            self.assertEqual([address for address, part in told], sorted(answers))
            whole = stitched(question, answers)
            self.assertEqual(whole, plain_answer(question, {}, store), question_shown(question))
            nested += len([address for address in answers if len(address) > 1 and answers[address] != bag()])
            kept += whole != bag()
        self.assertGreater(nested, 100)
        self.assertGreater(kept, 250)

    def test_drawn_of_bags_within_bags(self):
        kinds = (bag_kind(bag_kind(NUM)), row_of(("of", bag_kind(row_of(("k", NUM), ("of", bag_kind(NUM)))))),
                 row_of(("a", bag_kind(NUM)), ("b", row_of(("c", bag_kind(WORD)), ("d", NUM)))))
        deep = 0
        for question, kind, store, change in drawn(93, 300, kinds=kinds, stock=PLAIN_STOCK):
            maker = Maker(deep)
            for store in (store, maker.store(PLAIN_STOCK, 5)):
                answers = answers_of(question, store)
                self.assertEqual(stitched(question, answers), plain_answer(question, {}, store))
                deep += max([len(address) for address in answers if answers[address] != bag()], default=0) > 3
        self.assertGreater(deep, 20)

    def test_deeper_than_calls_may_go(self):
        question, wanted = ("table", "n"), "{1, 2 * 3}"
        for turn in range(150):
            question, wanted = ("one", question), "{" + wanted + "}"
        told = flat(question)
        self.assertEqual(len(told), 151)
        answers = {address: answer(part, {}, STORES[0]) for address, part in told}
        self.assertEqual(shown(stitched(question, answers)), wanted)
