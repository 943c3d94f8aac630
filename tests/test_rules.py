import unittest

from keptnest.asks.questions import question_shown, read_question
from keptnest.turns.rules import at_path, put_in
from makers import STOCK, Maker, drawn_open
from plainly import plain_answer, plain_free, plain_kind
from plainturns import plain_paths, plain_put_in, plain_texts
from samples import ALL_WORDS, GREAT, is_name

LETTERS = "abcdefghijklmnopqrstuvwxyz"
# Each path of the question with every word in it.
PATHS = {
    (0,): "num 7", (1, 0): "both table n times -2 none num", (1, 0, 0): "table n", (1, 0, 1): "times -2 none num",
    (1, 0, 1, 0): "none num", (1, 1, 0): "and or same word a word b under var r num 3 "
    "not same at f row 2 f num 1 g var q mul var r num 2",
    (1, 1, 0, 0): "or same word a word b under var r num 3", (1, 1, 0, 0, 0): "same word a word b",
    (1, 1, 0, 0, 0, 0): "word a", (1, 1, 0, 0, 0, 1): "word b", (1, 1, 0, 0, 1): "under var r num 3",
    (1, 1, 0, 0, 1, 0): "var r", (1, 1, 0, 0, 1, 1): "num 3",
    (1, 1, 0, 1): "not same at f row 2 f num 1 g var q mul var r num 2",
    (1, 1, 0, 1, 0): "same at f row 2 f num 1 g var q mul var r num 2",
    (1, 1, 0, 1, 0, 0): "at f row 2 f num 1 g var q", (1, 1, 0, 1, 0, 0, 0): "row 2 f num 1 g var q",
    (1, 1, 0, 1, 0, 0, 0, 0): "num 1", (1, 1, 0, 1, 0, 0, 0, 1): "var q", (1, 1, 0, 1, 0, 1): "mul var r num 2",
    (1, 1, 0, 1, 0, 1, 0): "var r", (1, 1, 0, 1, 0, 1, 1): "num 2", (1, 1, 1): "one add var r var q",
    (1, 1, 1, 0): "add var r var q", (1, 1, 1, 0, 0): "var r", (1, 1, 1, 0, 1): "var q",
}


class TestPaths(unittest.TestCase):
    def test_every_path_of_every_word(self):
        whole = read_question(ALL_WORDS)
        self.assertEqual(at_path(whole, ()), whole)
        for path, text in PATHS.items():
            self.assertEqual(question_shown(at_path(whole, path)), text)
        self.assertEqual(len(plain_paths(whole)), len(PATHS) + 3)

    def test_of_claims(self):
        claim = ("and", ("same", ("num", 1), ("num", 2)), ("not", ("under", ("var", "x"), ("num", 3))))
        self.assertEqual(at_path(claim, ()), claim)
        self.assertEqual(at_path(claim, (1, 0, 0)), ("var", "x"))
        self.assertEqual(at_path(claim, (0, 1)), ("num", 2))
        self.assertIsNone(at_path(claim, (2,)))
        self.assertIsNone(at_path(claim, (1, 1)))

    def test_paths_that_lead_nowhere(self):
        whole = read_question(ALL_WORDS)
        for path, knot in plain_paths(whole):
            below = len([more for more, inner in plain_paths(knot) if len(more) == 1])
            for step in (below, below + 1, -1, -2, -below - 1, 7, GREAT, -GREAT):
                self.assertIsNone(at_path(whole, path + (step,)), path + (step,))
                self.assertIsNone(at_path(whole, path + (step, 0)))
                self.assertIsNone(at_path(whole, (step, 0) if not path else path[:-1] + (-1,) + (0,)))
        for text in ("num 1", "word a", "var x", "table n", "none bag num", "row 0"):
            self.assertEqual(at_path(read_question(text), ()), read_question(text))
            for path in ((0,), (-1,), (1,), (0, 0)):
                self.assertIsNone(at_path(read_question(text), path))

    def test_drawn(self):
        for question, *rest in drawn_open(71, 60):
            for path, knot in plain_paths(question):
                self.assertEqual(at_path(question, path), knot)


class TestPutIn(unittest.TestCase):
    def told(self, text, name, other):
        return question_shown(put_in(read_question(text), name, read_question(other)))

    def test_each(self):
        for text, name, other, wanted in (
            ("var x", "x", "num 3", "num 3"), ("var y", "x", "num 3", "var y"), ("num 1", "x", "num 3", "num 1"),
            ("table x", "x", "table n", "table x"), ("word x", "x", "num 1", "word x"),
            ("add var x mul var x var y", "x", "var y", "add var y mul var y var y"),
            ("row 2 a var x x var y", "x", "num 3", "row 2 a num 3 x var y"),
            ("at x var x", "x", "var z", "at x var z"),
            ("none row 1 x num", "x", "num 3", "none row 1 x num"), ("times 2 one var x", "x", "var x",
                                                                     "times 2 one var x"),
            ("when and same var x num 1 not or under var x num 2 same var x var x one var x", "x", "num 0",
             "when and same num 0 num 1 not or under num 0 num 2 same num 0 num 0 one num 0"),
            ("both var x for r var x one var r", "x", "table n", "both table n for r table n one var r"),
        ):
            self.assertEqual(self.told(text, name, other), wanted)

    def test_bound_by_the_name_itself(self):
        for text, other, wanted in (
            ("for x table n one var x", "num 1", "for x table n one var x"),
            ("for x var x one var x", "table n", "for x table n one var x"),
            ("let x var x var x", "num 2", "let x num 2 var x"), ("let x num 1 var x", "var y", "let x num 1 var x"),
            ("for x var x one var x", "var x", "for x var x one var x"),
            ("for r table n let x var x add var x var r", "num 4", "for r table n let x num 4 add var x var r"),
            ("for x table n for r var x one add var r var x", "table m",
             "for x table n for r var x one add var r var x"),
        ):
            self.assertEqual(self.told(text, "x", other), wanted)

    def test_renamed(self):
        for text, other, wanted in (
            ("for y table n one add var x var y", "var y", "for a table n one add var y var a"),
            ("let y num 1 add var x var y", "var y", "let a num 1 add var y var a"),
            ("for y table n one add var x var y", "add var y var z", "for a table n one add add var y var z var a"),
            ("for y table n one var x", "var y", "for a table n one var y"),
            # What is free in the question handed over, and no other name, brings it about.
            ("for y table n one add var x var y", "var z", "for y table n one add var z var y"),
            ("for y table n one add var x var y", "let y num 1 var y",
             "for y table n one add let y num 1 var y var y"),
            ("for y table n one var x", "at y row 1 y num 1", "for y table n one at y row 1 y num 1"),
            # Over what it goes is not under it.
            ("for y var x one var y", "var y", "for y var y one var y"),
            ("for y var x one add var x var y", "var y", "for a var y one add var y var a"),
            # In claims.
            ("for y table n when same var x var y one var y", "var y", "for a table n when same var y var a one var a"),
            ("when same num 1 let y num 2 add var x var y one var y", "var y",
             "when same num 1 let a num 2 add var y var a one var y"),
        ):
            self.assertEqual(self.told(text, "x", other), wanted)

    def test_the_first_name_that_stands_in_neither(self):
        for text, other, wanted in (
            ("for y table a one add var x var y", "var y", "for b table a one add var y var b"),
            ("for y table n one add var x var y", "add var y var a", "for b table n one add add var y var a var b"),
            ("for b table a one add var x var b", "var b", "for c table a one add var b var c"),
            ("for y table n one add var x at a row 2 a var y c num 1", "add var y let b num 1 var b",
             "for d table n one add add var y let b num 1 var b at a row 2 a var d c num 1"),
            ("for y table n when same word a word b one add var x var y", "at c row 1 c var y",
             "for d table n when same word a word b one add at c row 1 c var y var d"),
            ("for y for a none row 2 b num d bag row 1 e word one num 1 one add var x var y", "var y",
             "for c for a none row 2 b num d bag row 1 e word one num 1 one add var y var c"),
            ("let a num 1 for y table n one add var x var y", "var y", "let a num 1 for b table n one add var y var b"),
            ("for y table n one add var x var y", "let a none row 1 b num var y",
             "for c table n one add let a none row 1 b num var y var c"),
        ):
            self.assertEqual(self.told(text, "x", other), wanted)

    def test_shorter_names_ahead_and_words_left_out(self):
        for taken, new in (
            (LETTERS[:-2], "y"), (LETTERS[:-1], "z"), (LETTERS, "aa"), (list(LETTERS) + ["aa", "ac"], "ab"),
            (list(LETTERS) + ["a" + letter for letter in LETTERS if letter < "t"], "au"),
            (list(LETTERS) + ["a" + letter for letter in LETTERS], "ba"),
            (list(LETTERS) + [one + other for one in LETTERS for other in LETTERS if one + other != "or"], "aaa"),
        ):
            parts = {**{field: "num 1" for field in taken if is_name(field)}, "ma": "var x", "mb": "var b"}
            rows = " ".join(f"{field} {parts[field]}" for field in sorted(parts))
            text = f"for b table n one row {len(parts)} {rows}"
            wanted = text.replace("for b", f"for {new}").replace("var x", "var swapped").replace("var b", f"var {new}")
            self.assertEqual(self.told(text, "x", "var b"), wanted.replace("swapped", "b"))

    def test_several_in_the_order_in_which_they_are_written(self):
        for text, wanted in (
            ("both for y table n one add var x var y for y table n one add var x var y",
             "both for a table n one add var y var a for b table n one add var y var b"),
            ("for y table n for y table m one add var x var y", "for a table n for b table m one add var y var b"),
            ("for y for y table n one add var x var y one add var x var y",
             "for a for b table n one add var y var b one add var y var a"),
            ("for y let y num 1 one add var x var y let y var x add var x var y",
             "for a let b num 1 one add var y var b let c var y add var y var c"),
            ("for y table n both one add var x var y for z table n one add var x add var y var z",
             "for a table n both one add var y var a for z table n one add var y add var a var z"),
        ):
            self.assertEqual(self.told(text, "x", "var y"), wanted)
        self.assertEqual(self.told("for z table n for y table n one add var x add var y var z", "x", "add var y var z"),
                         "for a table n for b table n one add add var y var z add var b var a")
        self.assertEqual(self.told("for y table n for z table n for y table n one add var x add var y var z", "x",
                                   "add var y var z"),
                         "for a table n for b table n for c table n one add add var y var z add var c var b")

    def test_bindings_under_which_nothing_is_brought_stay(self):
        for text, wanted in (
            ("both for y table n one var y one var x", "both for y table n one var y one var y"),
            ("for y table n for x table m one add var x var y", "for y table n for x table m one add var x var y"),
            ("for y table n let x var y var x", "for y table n let x var y var x"),
            ("both for y table n one var y for y table n one add var x var y",
             "both for y table n one var y for a table n one add var y var a"),
            ("for y for y table n one var y one add var x var y", "for a for y table n one var y one add var y var a"),
            ("for y for y table n one add var x var y one var y", "for y for a table n one add var y var a one var y"),
            ("for y table n both for y table m one var y one add var x var y",
             "for a table n both for y table m one var y one add var y var a"),
        ):
            self.assertEqual(self.told(text, "x", "var y"), wanted)

    def test_into_claims(self):
        claim = ("same", ("var", "x"), ("let", "y", ("num", 1), ("add", ("var", "x"), ("var", "y"))))
        self.assertEqual(put_in(claim, "x", ("var", "y")),
                         ("same", ("var", "y"), ("let", "a", ("num", 1), ("add", ("var", "y"), ("var", "a")))))

    def test_drawn(self):
        many = 0
        for question, kind, kinds, values, store in drawn_open(72, 500):
            maker = Maker(many)
            for name in plain_free(question):
                other = maker.question(kinds[name], kinds, STOCK, 3)
                told = put_in(question, name, other)
                self.assertEqual(told, plain_put_in(question, name, other))
                self.assertEqual(plain_kind(told, kinds, STOCK), kind)
                with_other = {**values, name: plain_answer(other, values, store)}
                self.assertEqual(plain_answer(told, values, store), plain_answer(question, with_other, store))
                many += plain_texts(told) - plain_texts(question) - plain_texts(other) != set()
            self.assertEqual(put_in(question, "unseen", ("num", 1)), question)
        self.assertGreater(many, 30)
