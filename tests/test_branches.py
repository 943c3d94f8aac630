import unittest

from keptnest.asks.answers import answer
from keptnest.asks.questions import question_shown, read_question
from keptnest.errors import NoFlat
from keptnest.flat.branches import branches
from makers import PLAIN_STOCK, drawn
from plainly import plain_answer, plain_bag
from plainturns import branch_question, plain_texts
from samples import GREAT, NOT_FLAT, bag

BRANCHES = (
    # A part alone, of each form.
    ("one num 1", [(1, (), (), "num 1")]), ("times 3 one num 1", [(3, (), (), "num 1")]),
    ("for x table n one var x", [(1, (("x", "n"),), (), "var x")]),
    ("for x table n for y table m one add var x var y", [(1, (("x", "n"), ("y", "m")), (), "add var x var y")]),
    ("for x table n when same var x num 1 one var x", [(1, (("x", "n"),), ("same var x num 1",), "var x")]),
    ("times -2 for x table n when same var x num 1 one num 2", [(-2, (("x", "n"),), ("same var x num 1",), "num 2")]),
    ("when same num 1 num 2 one num 3", [(1, (), ("same num 1 num 2",), "num 3")]),
    (f"times {GREAT} one num 1", [(GREAT, (), (), "num 1")]),
    ("times 1 one num 1", [(1, (), (), "num 1")]),
    # Several, in the order in which they are written.
    ("both one num 2 one num 1", [(1, (), (), "num 2"), (1, (), (), "num 1")]),
    ("both both one num 3 one num 1 both one num 4 one num 2",
     [(1, (), (), "num 3"), (1, (), (), "num 1"), (1, (), (), "num 4"), (1, (), (), "num 2")]),
    ("both one num 1 both both one num 2 one num 3 one num 4", [(1, (), (), f"num {k}") for k in (1, 2, 3, 4)]),
    ("both one num 1 one num 1", [(1, (), (), "num 1"), (1, (), (), "num 1")]),
    # Parts that end in a table: one name for all, that stands nowhere.
    ("table n", [(1, (("a", "n"),), (), "var a")]), ("table a", [(1, (("b", "a"),), (), "var b")]),
    ("both table n table m", [(1, (("a", "n"),), (), "var a"), (1, (("a", "m"),), (), "var a")]),
    ("both table n for a table b table m", [(1, (("c", "n"),), (), "var c"), (1, (("a", "b"), ("c", "m")), (),
                                                                              "var c")]),
    ("times 2 for x table n when same var x num 1 table m",
     [(2, (("x", "n"), ("a", "m")), ("same var x num 1",), "var a")]),
    ("both table n one row 1 a word b", [(1, (("c", "n"),), (), "var c"), (1, (), (), "row 1 a word b")]),
    ("both table n none row 2 a num b num", [(1, (("c", "n"),), (), "var c")]),
    ("let z word a both table n table m", [(1, (("a", "n"),), (), "var a"), (1, (("a", "m"),), (), "var a")]),
    # None.
    ("none num", []), ("times 3 none num", []), ("for x table n none num", []), ("for x none num one var x", []),
    ("for x table n for y none num one add var x var y", []), ("when same num 1 num 1 none num", []),
    ("for x none num for y table n one num 1", []), ("for x none bag num for y var x one var y", []),
    ("for x none row 1 of bag num for y at of var x for z table n one var z", []), ("for x none bag num var x", []),
    ("times 0 one num 1", []), ("times 0 table n", []), ("times 2 times 0 for x table n one var x", []),
    ("both none num both one num 1 times 0 one num 2", [(1, (), (), "num 1")]),
    ("both for x none num one var x for x table n one var x", [(1, (("x", "n"),), (), "var x")]),
    # Claims that and joins, on whichever side, in order; those within or and not are one claim.
    ("when and same num 1 num 1 same num 2 num 2 one num 3", [(1, (), ("same num 1 num 1", "same num 2 num 2"),
                                                               "num 3")]),
    ("when and and same num 1 num 1 same num 2 num 2 same num 3 num 3 one num 3",
     [(1, (), ("same num 1 num 1", "same num 2 num 2", "same num 3 num 3"), "num 3")]),
    ("when and same num 1 num 1 and same num 2 num 2 same num 3 num 3 one num 3",
     [(1, (), ("same num 1 num 1", "same num 2 num 2", "same num 3 num 3"), "num 3")]),
    ("when and and same num 1 num 1 same num 2 num 2 and same num 3 num 3 same num 4 num 4 one num 3",
     [(1, (), tuple(f"same num {k} num {k}" for k in (1, 2, 3, 4)), "num 3")]),
    ("when same num 1 num 1 for x table n when same var x num 2 when same num 3 num 3 one num 3",
     [(1, (("x", "n"),), ("same num 1 num 1", "same var x num 2", "same num 3 num 3"), "num 3")]),
    ("when or and same num 1 num 1 same num 2 num 2 same num 3 num 3 one num 3",
     [(1, (), ("or and same num 1 num 1 same num 2 num 2 same num 3 num 3",), "num 3")]),
    ("when not and same num 1 num 1 same num 2 num 2 one num 3",
     [(1, (), ("not and same num 1 num 1 same num 2 num 2",), "num 3")]),
    # Gens of one name are told as they are.
    ("for x table n for x table m one var x", [(1, (("x", "n"), ("x", "m")), (), "var x")]),
    ("for x table n for x table n when same var x num 1 one var x",
     [(1, (("x", "n"), ("x", "n")), ("same var x num 1",), "var x")]),
    # What is shortened here.
    ("for x both table n times 2 table m one var x", [(1, (("x", "n"),), (), "var x"), (2, (("x", "m"),), (),
                                                                                        "var x")]),
    ("let q table n for x var q one var x", [(1, (("x", "n"),), (), "var x")]),
    ("for y for x table n one row 2 a var x b num 1 one at a var y", [(1, (("x", "n"),), (), "var x")]),
    ("for x one num 1 for y table n one add var x var y", [(1, (("y", "n"),), (), "add num 1 var y")]),
    ("times 2 both times 3 table n for x table m both one var x times -1 one num 1",
     [(6, (("a", "n"),), (), "var a"), (2, (("x", "m"),), (), "var x"), (-2, (("x", "m"),), (), "num 1")]),
    # Rows with bags in them.
    ("for x table n one row 2 k var x of for y table m one var y",
     [(1, (("x", "n"),), (), "row 2 k var x of for y table m one var y")]),
    ("one table n", [(1, (), (), "table n")]), ("one none num", [(1, (), (), "none num")]),
    ("one one let q num 1 one var q", [(1, (), (), "one one num 1")]),
)


class TestBranches(unittest.TestCase):
    def test_by_hand(self):
        for text, wanted in BRANCHES:
            told = branches(read_question(text))
            self.assertIsInstance(told, list)
            shown = [(k, gens, tuple(question_shown(claim) for claim in claims), question_shown(row))
                     for k, gens, claims, row in told]
            self.assertEqual(shown, wanted, text)
            for branch in told:
                self.assertEqual([type(part) for part in branch], [int, tuple, tuple, tuple])

    def test_where_a_for_goes_over_another_thing(self):
        for text in NOT_FLAT:
            with self.assertRaises(NoFlat, msg=text) as caught:
                branches(read_question(text))
            self.assertIs(type(caught.exception), NoFlat)

    def test_a_for_over_a_table_of_bags_is_none_of_these(self):
        told = branches(read_question("for x table deep one at k var x"))
        self.assertEqual(told, [(1, (("x", "deep"),), (), ("at", "k", ("var", "x")))])

    def test_drawn(self):
        many, kept = 0, 0
        for question, kind, store, change in drawn(91, 700, stock=PLAIN_STOCK):
            told = branches(question)
            pairs = [pair for branch in told for pair in plain_answer(branch_question(branch), {}, store)[1]]
            self.assertEqual(plain_bag(pairs), plain_answer(question, {}, store), question_shown(question))
            self.assertEqual(answer(question, {}, store), plain_bag(pairs))
            for k, gens, claims, row in told:
                self.assertNotEqual(k, 0)
                self.assertEqual([claim for claim in claims if claim[0] == "and"], [])
                self.assertLessEqual({table for name, table in gens}, set(PLAIN_STOCK))
            many += len(told)
            kept += plain_bag(pairs) != bag()
        self.assertGreater(many, 500)
        self.assertGreater(kept, 200)

    def test_told_anew_each_time(self):
        question = read_question("both table n one num 1")
        told = branches(question)
        told.clear()
        self.assertEqual(len(branches(question)), 2)
        self.assertLessEqual(plain_texts(branches(question)[0]), {"a", "n", "var"})

    def test_many_parts(self):
        question = ("table", "n")
        for turn in range(1500):
            question = ("both", question, ("table", "n"))
        told = branches(question)
        self.assertEqual(told, [(1, (("a", "n"),), (), ("var", "a"))] * 1501)
        claim = ("same", ("num", 1), ("num", 1))
        claims = claim
        for turn in range(1500):
            claims = ("and", claims, claim)
        self.assertEqual(branches(("when", claims, ("one", ("num", 1)))), [(1, (), (claim,) * 1501, ("num", 1))])
