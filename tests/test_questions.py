import unittest

from keptnest.asks.questions import free, question_shown, read_question, tables, under
from keptnest.errors import NoQuestion
from makers import ASKED_KINDS, NUM, STOCK, WORD, Maker, bag_kind, drawn, row_of
from plainly import parts_below, plain_free, plain_tables
from samples import GREAT, TAKEN_WORDS, nested, num, row, word

LETTERS = "abcdefghijklmnopqrstuvwxyz"
X, Y, T, S = ("var", "x"), ("var", "y"), ("table", "t"), ("table", "s")
TRUE = ("same", num(1), num(1))

# Each word of questions: the question, its text, and what is right below.
WRITTEN = (
    (num(0), "num 0", ()),
    (num(7), "num 7", ()),
    (num(-120), "num -120", ()),
    (num(GREAT), "num 987654321098765432109876543210", ()),
    (num(-GREAT), "num -987654321098765432109876543210", ()),
    (word("a"), "word a", ()),
    (word("abcdefgh"), "word abcdefgh", ()),
    (X, "var x", ()),
    (T, "table t", ()),
    (("table", "nums"), "table nums", ()),
    (row(), "row 0", ()),
    (row(("a", X)), "row 1 a var x", (X,)),
    (row(("a", X), ("b", T)), "row 2 a var x b table t", (X, T)),
    (row(("a", row()), ("b", row(("a", num(1)))), ("c", X)), "row 3 a row 0 b row 1 a num 1 c var x",
     (row(), row(("a", num(1))), X)),
    (("at", "f", X), "at f var x", (X,)),
    (("at", "f", ("at", "g", X)), "at f at g var x", (("at", "g", X),)),
    (("add", X, num(-1)), "add var x num -1", (X, num(-1))),
    (("mul", X, Y), "mul var x var y", (X, Y)),
    (("none", NUM), "none num", ()),
    (("none", WORD), "none word", ()),
    (("none", row_of()), "none row 0", ()),
    (("none", row_of(("a", NUM), ("b", bag_kind(row_of(("c", WORD)))))), "none row 2 a num b bag row 1 c word", ()),
    (("none", bag_kind(bag_kind(NUM))), "none bag bag num", ()),
    (("one", X), "one var x", (X,)),
    (("both", T, S), "both table t table s", (T, S)),
    (("times", 0, T), "times 0 table t", (T,)),
    (("times", -GREAT, T), "times -987654321098765432109876543210 table t", (T,)),
    (("for", "x", T, ("one", X)), "for x table t one var x", (T, ("one", X))),
    (("when", TRUE, T), "when same num 1 num 1 table t", (TRUE, T)),
    (("let", "x", num(1), X), "let x num 1 var x", (num(1), X)),
    (("for", "x", ("for", "y", T, S), ("for", "y", S, T)), "for x for y table t table s for y table s table t",
     (("for", "y", T, S), ("for", "y", S, T))),
)
CLAIMS = (
    (TRUE, "same num 1 num 1", (num(1), num(1))),
    (("same", word("a"), X), "same word a var x", (word("a"), X)),
    (("under", X, num(3)), "under var x num 3", (X, num(3))),
    (("and", TRUE, ("not", TRUE)), "and same num 1 num 1 not same num 1 num 1", (TRUE, ("not", TRUE))),
    (("or", ("under", X, Y), TRUE), "or under var x var y same num 1 num 1", (("under", X, Y), TRUE)),
    (("not", ("not", TRUE)), "not not same num 1 num 1", (("not", TRUE),)),
)

# What may stand around a question, with the text ahead of it and behind; each part of each word.
AROUND = (
    ("at f ", ""), ("one ", ""), ("times 2 ", ""), ("row 1 a ", ""), ("row 3 a num 1 b ", " c num 1"),
    ("row 2 a num 1 b ", ""), ("row 2 a ", " b num 1"),
    ("add ", " num 1"), ("add num 1 ", ""), ("mul ", " num 1"), ("mul num 1 ", ""),
    ("both ", " table t"), ("both table t ", ""), ("for x ", " table t"), ("for x table t ", ""),
    ("let x ", " table t"), ("let x table t ", ""), ("when same num 1 num 1 ", ""),
)
# What may stand around a question so that a question comes of it with claims between: with how many knots more.
AROUND_BY_CLAIMS = (
    ("when same ", " num 1 table t", 2), ("when same num 1 ", " table t", 2), ("when under ", " num 1 table t", 2),
    ("when under num 1 ", " table t", 2), ("when not same ", " num 1 table t", 3),
    ("when and same ", " num 1 same num 1 num 1 table t", 3), ("when or same ", " num 1 same num 1 num 1 table t", 3),
    ("when and same num 1 num 1 same ", " num 1 table t", 3), ("when or same num 1 num 1 same ", " num 1 table t", 3),
)
AROUND_A_CLAIM = (("not ", ""), ("and ", " same num 1 num 1"), ("and same num 1 num 1 ", ""),
                  ("or ", " same num 1 num 1"), ("or same num 1 num 1 ", ""))
AROUND_A_KIND = (("bag ", ""), ("row 1 a ", ""), ("row 2 a num b ", ""), ("row 2 a ", " b num"))


def wrapped(text, around, times):
    for turn in range(times):
        text = around[0] + text + around[1]
    return text


class TestShown(unittest.TestCase):
    def test_word_by_word(self):
        for question, text, below in WRITTEN + CLAIMS:
            self.assertEqual(question_shown(question), text)

    def test_in_parts(self):
        for one, text, below in WRITTEN:
            for other, more, below in WRITTEN:
                self.assertEqual(question_shown(("both", one, other)), "both " + text + " " + more)
                self.assertEqual(question_shown(row(("a", one), ("b", other))), f"row 2 a {text} b {more}")
                self.assertEqual(question_shown(("for", "z", one, other)), f"for z {text} {more}")
        for claim, text, below in CLAIMS:
            self.assertEqual(question_shown(("when", claim, T)), "when " + text + " table t")

    def test_deeper_than_what_is_read(self):
        for depth in (21, 300, 1500):
            self.assertEqual(question_shown(nested(depth, lambda inner: ("one", inner), T)),
                             "one " * (depth - 1) + "table t")
            self.assertEqual(question_shown(nested(depth, lambda inner: ("not", inner), TRUE)),
                             "not " * (depth - 1) + "same num 1 num 1")

    def test_numbers_of_many_figures(self):
        self.assertEqual(question_shown(("times", -(10 ** 1999), num(10 ** 1999))),
                         "times -1" + "0" * 1999 + " num 1" + "0" * 1999)


class TestRead(unittest.TestCase):
    def test_there_and_back(self):
        for question, text, below in WRITTEN:
            self.assertEqual(read_question(text), question)
        for claim, text, below in CLAIMS:
            self.assertEqual(read_question("when " + text + " table t"), ("when", claim, T))

    def test_drawn_there_and_back(self):
        for question, kind, store, change in drawn(1, 300):
            told = read_question(question_shown(question))
            self.assertEqual(told, question)
            self.assertEqual(repr(told), repr(question))

    def test_each_in_each_place(self):
        for question, text, below in WRITTEN:
            for ahead, behind in AROUND:
                told = read_question(ahead + text + behind)
                self.assertEqual(question_shown(told), ahead + text + behind)
                self.assertIn(question, under(told))
            for ahead, behind, more in AROUND_BY_CLAIMS:
                self.assertEqual(question_shown(read_question(ahead + text + behind)), ahead + text + behind)

    def test_rows_of_none_to_fourteen_fields(self):
        for many in range(15):
            text = f"row {many}" + "".join(f" {field} num {place}" for place, field in enumerate(LETTERS[:many]))
            wanted = ("row", tuple((field, num(place)) for place, field in enumerate(LETTERS[:many])))
            self.assertEqual(read_question(text), wanted)
            kinds = f"none row {many}" + "".join(f" {field} word" for field in LETTERS[:many])
            wanted = ("none", ("row", tuple((field, WORD) for field in LETTERS[:many])))
            self.assertEqual(read_question(kinds), wanted)

    def test_fields_rise_by_letters(self):
        self.assertEqual(read_question("row 4 a num 1 aa num 1 ab num 1 b num 1")[1][2][0], "ab")
        self.assertEqual(read_question("none row 3 abcdefgh num b num z num")[1][1][0][0], "abcdefgh")

    def test_numbers_are_whole_numbers(self):
        for text in ("num 1", "num 0", "num -1"):
            self.assertIs(type(read_question(text)[1]), int)
        self.assertIs(type(read_question("times 1 table t")[1]), int)

    def test_names_that_look_like_words(self):
        for name in ("nums", "no", "fo", "lets", "truth", "key", "val", "undera", "ands", "abcdefgh", "z"):
            self.assertEqual(read_question(f"let {name} word {name} at {name} var {name}"),
                             ("let", name, word(name), ("at", name, ("var", name))))
            self.assertEqual(read_question(f"row 1 {name} table {name}"), row((name, ("table", name))))


class Refusals(unittest.TestCase):
    def refused(self, text):
        with self.assertRaises(NoQuestion, msg=repr(text)) as caught:
            read_question(text)
        self.assertIs(type(caught.exception), NoQuestion)

    def each_refused(self, *texts):
        for text in texts:
            self.refused(text)


class TestRefused(Refusals):
    def test_nothing_at_all(self):
        self.each_refused("", " ", "  ", "\n", "\t")

    def test_a_claim_alone(self):
        for claim, text, below in CLAIMS:
            self.refused(text)

    def test_a_claim_where_a_question_is_due(self):
        for claim, text, below in CLAIMS:
            for ahead, behind in AROUND:
                self.refused(ahead + text + behind)
            for ahead, behind, more in AROUND_BY_CLAIMS:
                self.refused(ahead + text + behind)

    def test_a_question_where_a_claim_is_due(self):
        for question, text, below in WRITTEN:
            self.refused("when " + text + " table t")
            for ahead, behind in AROUND_A_CLAIM:
                self.refused("when " + ahead + text + behind + " table t")

    def test_a_word_too_few_or_too_many(self):
        for question, text, below in WRITTEN + tuple((None, f"when {text} table t", ()) for c, text, b in CLAIMS):
            words = text.split(" ")
            for end in range(len(words)):
                self.refused(" ".join(words[:end]))
            for more in ("x", "num", "num 1", "table t", "0", "same num 1 num 1"):
                self.refused(text + " " + more)
            for place in range(len(words)):
                self.refused(" ".join(words[:place] + ["zz"] + words[place:]))

    def test_no_such_words(self):
        self.each_refused("x", "1", "bag", "bag num", "truth", "Num 1", "NUM 1", "nums 1", "tables t", "num1", "varx",
                          "num,1", "(num 1)", "one  ", "key x", "~", "'a", "<>", "{}", "go t", "if")

    def test_figures(self):
        for figures in ("00", "01", "007", "-0", "-00", "-01", "+1", "--1", "-", "1-", "1.5", "1_0", "1e3", "0x1",
                        "1,000", "x", "\u0661", "\u00b2", "1\u0661", "'1", ""):
            self.each_refused("num " + figures, "times " + figures + " table t", "one num " + figures,
                              "row " + figures, "none row " + figures, "row " + figures + " a num 1",
                              "none row " + figures + " a num", "when same num 1 num " + figures + " table t")

    def test_names(self):
        others = ("A", "aB", "a1", "1", "a_b", "a-b", "abcdefghi", "aaaaaaaaaaaa", "'a", "a'", "\u00e4", "\u0430", "",
                  "a.b", "a:", "<", "~")
        for name in others + tuple(TAKEN_WORDS):
            self.each_refused("var " + name, "table " + name, "word " + name, f"at {name} var x",
                              f"for {name} table t table t", f"let {name} num 1 num 1", f"row 1 {name} num 1",
                              f"row 2 a num 1 {name} num 1", f"none row 1 {name} num", f"none row 2 a num {name} num")

    def test_counts_of_parts(self):
        self.each_refused("row", "row a num 1", "row -1", "row -1 a num 1", "row 2 a num 1", "row 0 a num 1",
                          "row 1 a num 1 b num 1", "row 1 a", "row 1", "row 3 a num 1 b num 1", "row 2 a num 1 b",
                          "row 1 num 1", "row 2 a num 1 num 1", "row " + "9" * 30, "row " + "9" * 30 + " a num 1")
        self.each_refused("none row", "none row a num", "none row -1", "none row 2 a num", "none row 0 a num",
                          "none row 1 a num b num", "none row 1 a", "none row 1", "none row 1 num",
                          "none row 2 a num b",
                          "none row " + "9" * 30, "none row " + "9" * 30 + " a num")

    def test_fields_that_do_not_rise(self):
        self.each_refused("row 2 b num 1 a num 1", "row 2 a num 1 a num 1", "row 2 a num 1 a num 2",
                          "row 3 a num 1 c num 1 b num 1", "row 3 a num 1 b num 1 a num 1", "row 2 aa num 1 a num 1",
                          "row 2 b num 1 aa num 1", "row 1 a row 2 b num 1 a num 1")
        self.each_refused("none row 2 b num a num", "none row 2 a num a num", "none row 2 a num a word",
                          "none row 3 a num c num b num", "none row 2 aa num a num", "none bag row 2 b num a num")

    def test_kinds(self):
        self.each_refused("none", "none x", "none bag", "none bag bag", "none truth", "none num 1", "none word a",
                          "none var x", "none table t", "none bag num num", "none num num", "none none num",
                          "none same num 1 num 1", "none 1", "none one num", "none row 1 a num 1")

    def test_blanks(self):
        for text in ("num 1", "for x table t one var x", "row 2 a num 1 b none row 1 c bag num"):
            read_question(text)
            for place in range(len(text) + 1):
                self.refused(text[:place] + " " + text[place:])
            for place, sign in enumerate(text):
                if sign == " ":
                    for other in ("  ", "\t", "\n", "\r", "\u00a0", "\u3000", "\x0b", "\x1f", "_", ","):
                        self.refused(text[:place] + other + text[place + 1:])
            for other in ("\n", "\t", "\r", "\x00", "\u00a0"):
                self.each_refused(text + other, other + text)

    def test_each_sign_alone_and_behind(self):
        for sign in [chr(code) for code in range(128)]:
            self.each_refused(sign, "table t " + sign, sign + " table t")
            if sign not in LETTERS:
                self.refused("table t" + sign)
            if sign not in "0123456789":
                self.refused("num 1" + sign)

    def test_four_thousand_signs(self):
        for piece in ("one ", "at f ", "not ", "row 1 a ", "for x ", "let x table t ", "none bag ", "both ", "when ",
                      "none row 1 a ", "bag ", " ", "x", "9", "num ", "none ", "times 1 ", "when not "):
            self.refused((piece * 4000)[:4000])
        self.refused("num " + "9" * 3995 + " ")


class TestDepth(Refusals):
    def read_or_refused(self, make, bound):
        text = make(bound)
        self.assertEqual(question_shown(read_question(text)), text)
        for more in (1, 2, 30):
            self.refused(make(bound + more))

    def test_twenty_knots_by_each_part_of_each_word(self):
        for around in AROUND:
            for inner in ("num 1", "word a", "var x", "table t", "none num", "row 0", "none " + "bag " * 11 + "num"):
                # Two knots more at the inner end, as the claim beside it in a when is of two itself.
                self.read_or_refused(lambda depth: wrapped("one one " + inner, around, depth - 3), 20)

    def test_twenty_knots_with_claims_between(self):
        for ahead, behind, more in AROUND_BY_CLAIMS:
            for around in AROUND:
                self.read_or_refused(
                    lambda depth: ahead + wrapped("one one num 1", around, depth) + behind, 20 - 3 - more)
                self.read_or_refused(lambda depth: wrapped(ahead + "num 1" + behind, around, depth), 20 - 1 - more)

    def test_twenty_knots_of_claims(self):
        for around in AROUND_A_CLAIM:
            self.read_or_refused(lambda depth: "when " + wrapped("same num 1 num 1", around, depth) + " table t", 17)

    def test_twelve_knots_of_a_kind(self):
        for around in AROUND_A_KIND:
            for inner in ("num", "word", "row 0"):
                self.read_or_refused(lambda depth: "none " + wrapped(inner, around, depth - 1), 12)
                self.read_or_refused(lambda depth: "both table t none " + wrapped(inner, around, depth - 1), 12)
                self.read_or_refused(lambda depth: "one " * 19 + "none " + wrapped(inner, around, depth - 1), 12)

    def test_many_beside_one_another_are_not_deep(self):
        text = "row 14" + "".join(f" {field} " + "one " * 18 + "table t" for field in LETTERS[:14])
        self.assertEqual(question_shown(read_question(text)), text)


class TestParts(unittest.TestCase):
    def test_under(self):
        for question, text, below in WRITTEN + CLAIMS:
            self.assertEqual(under(question), below)
            self.assertIsInstance(under(question), tuple)

    def test_under_of_drawn(self):
        for question, kind, store, change in drawn(2, 100):
            waiting = [question]
            while waiting:
                part = waiting.pop()
                self.assertEqual(under(part), tuple(parts_below(part)))
                waiting += under(part)

    def test_fourteen_fields(self):
        question = ("row", tuple((field, num(place)) for place, field in enumerate(LETTERS[:14])))
        self.assertEqual(under(question), tuple(num(place) for place in range(14)))


class TestFree(unittest.TestCase):
    def test_of_each_word(self):
        self.assertEqual(free(X), ["x"])
        for question in (num(1), word("x"), T, ("table", "x"), row(), ("none", NUM), row(("x", num(1))),
                         ("at", "x", T)):
            self.assertEqual(free(question), [], question)
        for question in (row(("a", X), ("b", num(1))), ("at", "y", X), ("one", X), ("times", 3, X)):
            self.assertEqual(free(question), ["x"], question)
        for word_of_two in ("add", "mul", "both", "same", "under"):
            self.assertEqual(free((word_of_two, Y, X)), ["x", "y"])
            self.assertEqual(free((word_of_two, X, T)), ["x"])
            self.assertEqual(free((word_of_two, T, X)), ["x"])
        claim, other = ("same", X, num(1)), ("under", Y, num(1))
        self.assertEqual(free(("not", claim)), ["x"])
        self.assertEqual(free(("and", other, claim)), ["x", "y"])
        self.assertEqual(free(("or", other, claim)), ["x", "y"])
        self.assertEqual(free(("when", claim, Y)), ["x", "y"])

    def test_bound_by_for_and_let(self):
        for binder in ("for", "let"):
            self.assertEqual(free((binder, "x", T, ("one", X))), [])
            self.assertEqual(free((binder, "x", T, ("one", Y))), ["y"])
            self.assertEqual(free((binder, "x", X, ("one", X))), ["x"])
            self.assertEqual(free((binder, "x", ("one", X), T)), ["x"])
            self.assertEqual(free((binder, "x", T, ("when", ("same", X, Y), ("one", X)))), ["y"])

    def test_bound_again_within(self):
        for one in ("for", "let"):
            for other in ("for", "let"):
                self.assertEqual(free((one, "x", T, (other, "x", X, X))), [])
                self.assertEqual(free((one, "x", T, (other, "y", X, ("both", X, Y)))), [])
                self.assertEqual(free((one, "x", (other, "x", T, X), Y)), ["y"])
                self.assertEqual(free((one, "x", (other, "y", T, ("both", X, Y)), X)), ["x"])

    def test_free_beside(self):
        for binder in ("for", "let"):
            inner = (binder, "x", T, ("one", X))
            self.assertEqual(free(("both", inner, ("one", X))), ["x"])
            self.assertEqual(free(("both", ("one", X), inner)), ["x"])
            self.assertEqual(free((binder, "y", inner, ("both", X, Y))), ["x"])
            self.assertEqual(free(row(("a", inner), ("b", X), ("c", Y))), ["x", "y"])

    def test_sorted_and_each_once(self):
        names = ["b", "aa", "z", "a", "ab", "aa", "b"]
        question = num(1)
        for name in names:
            question = ("add", question, ("var", name))
        self.assertEqual(free(question), ["a", "aa", "ab", "b", "z"])
        self.assertIsInstance(free(question), list)

    def test_drawn(self):
        kinds = {"x": NUM, "y": STOCK["s"], "z": bag_kind(NUM), "a": WORD}
        maker = Maker(3)
        for turn in range(200):
            question = maker.question(bag_kind(maker.chance.choice(ASKED_KINDS)), kinds, STOCK, 5)
            self.assertEqual(free(question), sorted(plain_free(question)))
            self.assertEqual(tables(question), sorted(plain_tables(question)))
            claim = maker.claim(kinds, STOCK, 4)
            self.assertEqual(free(claim), sorted(plain_free(claim)))
            self.assertEqual(tables(claim), sorted(plain_tables(claim)))

    def test_deep(self):
        deep = nested(1000, lambda inner: ("for", "x", T, ("both", inner, Y)), ("one", X))
        self.assertEqual(free(deep), ["y"])
        self.assertEqual(tables(deep), ["t"])


class TestTables(unittest.TestCase):
    def test_of_each_word(self):
        self.assertEqual(tables(T), ["t"])
        for question in (num(1), word("t"), ("var", "t"), row(), ("none", NUM), row(("t", num(1))), ("at", "t", X)):
            self.assertEqual(tables(question), [], question)
        for question in (row(("a", T), ("b", num(1))), ("at", "y", T), ("one", T), ("times", 3, T)):
            self.assertEqual(tables(question), ["t"], question)
        for word_of_two in ("add", "mul", "both", "same", "under"):
            self.assertEqual(tables((word_of_two, T, S)), ["s", "t"])
        claim, other = ("same", ("let", "x", T, num(1)), num(1)), ("under", ("let", "x", S, num(1)), num(1))
        self.assertEqual(tables(("not", claim)), ["t"])
        self.assertEqual(tables(("and", claim, other)), ["s", "t"])
        self.assertEqual(tables(("or", claim, other)), ["s", "t"])
        self.assertEqual(tables(("when", claim, S)), ["s", "t"])
        for binder in ("for", "let"):
            self.assertEqual(tables((binder, "t", S, ("var", "t"))), ["s"])
            self.assertEqual(tables((binder, "t", S, T)), ["s", "t"])

    def test_sorted_and_each_once(self):
        question = num(1)
        for name in ["b", "aa", "z", "a", "ab", "aa", "b"]:
            question = ("both", question, ("table", name))
        self.assertEqual(tables(question), ["a", "aa", "ab", "b", "z"])
        self.assertIsInstance(tables(question), list)

    def test_told_lists_are_the_askers_own(self):
        question = ("for", "x", T, ("both", ("one", Y), S))
        for ask, wanted in ((free, ["y"]), (tables, ["s", "t"])):
            told = ask(question)
            told.append("zz")
            told[0] = "zz"
            self.assertEqual(ask(question), wanted)
            told.clear()
            self.assertEqual(ask(question), wanted)
