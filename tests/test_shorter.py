import unittest

from keptnest.asks.answers import answer
from keptnest.asks.kinds import kind_of
from keptnest.asks.questions import knots, question_shown, read_question
from keptnest.turns.rules import led
from keptnest.turns.shorter import shortened
from makers import ASKED_KINDS, NUM, STOCK, Maker, bag_kind, drawn, drawn_open, size
from plainly import plain_answer, plain_kind
from plainturns import SHORT, is_short, plain_paths, plain_rule, first_names
from samples import ALL_WORDS, bag, nested, num

LETTERS = "abcdefghijklmnopqrstuvwxyz"
# Questions that come to the same short one whichever rule is taken first.
BY_HAND = (
    ("num 1", "num 1"), ("word a", "word a"), ("var x", "var x"), ("table n", "table n"), ("none num", "none num"),
    ("row 0", "row 0"), ("one num 1", "one num 1"), ("at f var x", "at f var x"), ("both table n table m",
                                                                                   "both table n table m"),
    ("at f row 2 e num 1 f num 2", "num 2"), ("at f at g row 1 g row 1 f num 2", "num 2"),
    ("at f row 1 g num 1", "at f row 1 g num 1"), ("let x num 1 add var x var x", "add num 1 num 1"),
    ("let x row 1 f num 1 at f var x", "num 1"), ("let x table n num 1", "num 1"),
    ("at f let x num 1 row 2 f var x g table n", "num 1"),
    ("for x one num 1 one var x", "one num 1"), ("for x table n one var x", "for x table n one var x"),
    ("for x both table n table m one var x", "both for x table n one var x for x table m one var x"),
    ("for x times 2 table n times 3 one var x", "times 6 for x table n one var x"),
    ("for x when same num 1 num 2 table n one var x", "for x table n when same num 1 num 2 one var x"),
    ("for y for x table n one var x one add var y num 1", "for x table n one add var x num 1"),
    ("for x table n both one var x one num 1", "both for x table n one var x for x table n one num 1"),
    ("when same num 1 num 2 both table n table m",
     "both when same num 1 num 2 table n when same num 1 num 2 table m"),
    ("when same num 1 num 2 times 2 table n", "times 2 when same num 1 num 2 table n"),
    ("when same num 1 num 2 when same num 3 num 4 table n", "when and same num 1 num 2 same num 3 num 4 table n"),
    ("when same num 1 var x for x table n one var x", "for a table n when same num 1 var x one var a"),
    ("times 2 both table n times 3 table m", "both times 2 table n times 6 table m"),
    ("times 1 table n", "times 1 table n"),
    ("times 1 times 1 table n", "times 1 table n"), ("times 0 table n", "times 0 table n"),
    ("for x none num both one var x one num 2", "both for x none num one var x for x none num one num 2"),
    ("let x var y for y table n one add var x var y", "for a table n one add var y var a"),
    ("one row 1 of let x table n for y var x one var y", "one row 1 of for y table n one var y"),
    ("when same at f row 1 f num 1 let x num 2 var x table n", "when same num 1 num 2 table n"),
    ("for x table n for y table n one row 2 a var x b var y", "for x table n for y table n one row 2 a var x b var y"),
)


class TestShortened(unittest.TestCase):
    def short(self, question):
        told = shortened(question)
        self.assertIsInstance(told, tuple)
        self.assertEqual(len(told), 2)
        self.assertIsInstance(told[1], tuple)
        self.assertEqual(question_shown(led(question, told[1])), question_shown(told[0]))
        self.assertEqual([rule for path, rule in told[1] if rule not in SHORT], [])
        return told

    def test_by_hand(self):
        for text, wanted in BY_HAND:
            told, chain = self.short(read_question(text))
            self.assertEqual(question_shown(told), wanted, text)
            self.assertEqual(chain == (), text == wanted)
            self.assertTrue(is_short(told))

    def test_what_is_short_stays(self):
        for text, wanted in BY_HAND:
            self.assertEqual(shortened(read_question(wanted)), (read_question(wanted), ()))

    def test_each_short_rule_alone(self):
        fits = (
            "at f row 1 f num 1", "let x num 1 num 2", "for x one num 1 one var x",
            "for y for x table n table m table n",
            "for x both table n table m table n", "for x times 2 table n table n",
            "for x when same num 1 num 1 table n table n", "for x table n both table n table m",
            "for x table n times 2 table n", "when same num 1 num 1 both table n table m",
            "when same num 1 num 1 times 2 table n", "when same num 1 num 1 for x table n table n",
            "when same num 1 num 1 when same num 1 num 1 table n", "times 2 times 3 table n",
            "times 2 both table n table m",
        )
        for rule, text in zip(SHORT, fits, strict=True):
            question = read_question(text)
            self.assertIsNotNone(plain_rule(rule, question, first_names(question)))
            for first, last in (("", ""), ("one ", ""), ("one row 2 a num 1 b ", ""), ("both table n ", ""),
                                ("one at f add num 1 ", ""), ("when not and same num 1 num 1 same num 1 mul num 1 ",
                                                              " table n"),
                                ("for x table n one ", ""), ("one for x table n one ", "")):
                whole = read_question(first + text + last)
                told, chain = self.short(whole)
                self.assertTrue(is_short(told))
                self.assertIn(rule, [used for path, used in chain])

    def test_what_becomes_of_lets_is_turned_on(self):
        # Each let stands where its question is known only when it is put in, and then fits the rules around it.
        claim, store = "same num 2 num 2", {"n": bag((num(1), 2), (num(2), -1)), "m": bag((num(2), 3))}
        bags = (
            "table n", "none num", "one num 2", "both table n one num 3", "times 3 table m", "times 3 one num 1",
            f"when {claim} table n", f"when {claim} one num 4", f"when {claim} none num", "for q table n one var q",
            f"for q table m when {claim} one var q", "both times 2 table n both one num 1 for q table n table m",
            f"times 2 for q table n when {claim} table m", f"both when {claim} one num 1 times 2 one num 2",
            "both both one num 1 one num 2 both one num 3 table n",
        )
        around = (
            "for x {} one add var x num 1", "for x {} both one var x times 2 table m", "for x {} {}", "times 2 {}",
            "times 2 times 3 {}", "when same num 1 num 1 {}", "when same num 1 num 1 times 2 {}", "for x table n {}",
            "for y for x {} one var x one var y", "for x table n times 2 {}", "both {} {}", "one {}",
            "for x when same num 1 num 1 {} one var x", "for x times 2 {} one var x", "for x both {} {} one var x",
            "when same num 1 num 1 for x {} one var x", "times 2 for x {} {}", "for x table n for y {} {}",
        )
        for inner in bags:
            for whole in around:
                for let in ("let z num 1 ", "let z table n ", "at f row 2 e num 1 f ", "let f row 1 a one num 1 ", ""):
                    question = read_question(whole.replace("{}", let + inner))
                    told, chain = self.short(question)
                    self.assertTrue(is_short(told), question_shown(question))
                    self.assertEqual(answer(told, {}, store), plain_answer(question, {}, store))

    def test_lets_of_bags_are_turned_on(self):
        claim, store = "same num 2 num 2", {"n": bag((num(1), 2), (num(2), -1)), "m": bag((num(2), 3))}
        for inner in ("table n", "none num", "one num 2", "both table n one num 3", "times 3 table m",
                      f"when {claim} one num 4", f"for q table m when {claim} one var q", "times 2 one num 1"):
            for use in ("for x var z one add var x num 1", "for x var z for y var z one add var x var y",
                        "times 2 var z", "when same num 1 num 1 var z", "for x table n var z",
                        "both var z times -1 var z", "for x var z when under var x num 2 var z",
                        "for x at a row 1 a var z one var x",
                        "for x when same num 1 num 1 var z times 2 var z", "one row 1 a for x var z one var x"):
                by_field = use.replace("var z", "at a var z")
                for let in (f"let z {inner} {use}", f"let z row 2 a {inner} b num 1 {by_field}",
                            f"for z one {inner} {use}"):
                    question = read_question(let)
                    told, chain = self.short(question)
                    self.assertTrue(is_short(told), let)
                    self.assertEqual(answer(told, {}, store), plain_answer(question, {}, store))

    def test_all_words(self):
        question = read_question(ALL_WORDS)
        told, chain = self.short(question)
        self.assertTrue(is_short(told))
        for rows in (bag(), bag((num(1), 2), (num(2), -1), (num(4), 1))):
            self.assertEqual(answer(told, {}, {"n": rows}), plain_answer(question, {}, {"n": rows}))

    def test_drawn(self):
        steps = 0
        for question, kind, kinds, values, store in drawn_open(81, 700):
            told, chain = self.short(question)
            self.assertTrue(is_short(told), question_shown(question))
            self.assertEqual(kind_of(told, kinds, STOCK), kind)
            self.assertEqual(answer(told, values, store), plain_answer(question, values, store))
            steps += len(chain)
        self.assertGreater(steps, 2000)

    def test_drawn_without_free_variables(self):
        for question, kind, store, change in drawn(82, 300):
            told, chain = self.short(question)
            self.assertTrue(is_short(told))
            self.assertEqual(plain_kind(told, {}, STOCK), kind)
            self.assertEqual(plain_answer(told, {}, store), answer(question, {}, store))

    def test_drawn_of_names_that_are_bound_anew(self):
        # Each binding is of one of two names, so that nearly all stand under others of their name.
        def two_names(thing):
            if not isinstance(thing, tuple):
                return thing
            if thing[:1] in (("var",), ("for",), ("let",)):
                return (thing[0], "x" if thing[1] in "abc" else "y") + tuple(two_names(part) for part in thing[2:])
            return tuple(two_names(part) for part in thing)
        new = 0
        for question, kind, kinds, values, store in drawn_open(83, 500):
            question = two_names(question)
            told, chain = self.short(question)
            self.assertTrue(is_short(told))
            values, kinds = ({"x": found["a"], "y": found["x"]} for found in (values, kinds))
            # Renamed so, some are of no kind any more, and are only turned.
            if kind_in(question, kinds):
                self.assertEqual(kind_in(told, kinds), kind_in(question, kinds))
                self.assertEqual(answer(told, values, store), plain_answer(question, values, store))
                new += 1
        self.assertGreater(new, 50)


def kind_in(question, kinds):
    try:
        return kind_of(question, kinds, STOCK)
    except ValueError:
        return None


class TestBounds(unittest.TestCase):
    def short(self, question):
        told, chain = shortened(question)
        self.assertEqual(question_shown(led(question, chain)), question_shown(told))
        return told

    def test_great_questions(self):
        maker, seen = Maker(84), 0
        while seen < 12:
            kind = bag_kind(maker.chance.choice(ASKED_KINDS))
            question = maker.question(kind, {}, STOCK, maker.chance.randrange(7, 11))
            if 250 <= size(question) <= 1000:
                told = self.short(question)
                fits = [knot for knot in knots(told) for rule in SHORT
                        if plain_rule(rule, knot, lambda: "z") is not None]
                self.assertEqual(fits, [])
                self.assertEqual(kind_of(told, {}, STOCK), kind)
                store = maker.store(STOCK, 1)
                self.assertEqual(answer(told, {}, store), answer(question, {}, store))
                seen += 1

    def test_twenty_within_one_another(self):
        for wrap in (lambda q: ("times", 1, q), lambda q: ("both", q, ("table", "n")),
                     lambda q: ("for", "x", q, ("one", ("var", "x"))),
                     lambda q: ("for", "x", ("table", "n"), q), lambda q: ("let", "x", q, ("var", "x")),
                     lambda q: ("let", "x", ("table", "n"), q), lambda q: ("for", "x", ("one", ("num", 1)), q),
                     lambda q: ("when", ("same", ("num", 1), ("num", 1)), q)):
            question = nested(20, wrap, ("table", "n"))
            told = self.short(question)
            self.assertTrue(is_short(told))
            store = {"n": bag((num(1), 1))}
            self.assertEqual(answer(told, {}, store), plain_answer(question, {}, store))

    def test_what_goes_is_not_looked_at(self):
        # Shortened by itself it would have more than three hundred million parts.
        great = "one num 1"
        for letter in "abcdefghijk":
            great = f"for x{letter} both both table n table m both both table n table n both table m table m {great}"
        for text, wanted in (
            (f"let z {great} one num 1", "one num 1"), (f"at f row 2 f one num 1 g {great}", "one num 1"),
            (f"at f at g row 1 g row 2 f one num 1 g {great}", "one num 1"),
            (f"let z row 2 f num 1 g {great} one at f var z", "one num 1"),
            (f"for z one row 2 f num 1 g {great} one at f var z", "one num 1"),
            (f"for z both one row 2 f num 1 g {great} one row 2 f num 2 g none num one at f var z",
             "both one num 1 one num 2"),
            (f"let z one num 1 at f row 2 f var z g let y {great} var y", "one num 1"),
            (f"at f let z one num 1 row 2 f var z g {great}", "one num 1"),
            (f"at f let z {great} row 2 f one num 1 g var z", "one num 1"),
            (f"at f at e let y one num 1 let z {great} row 2 d var z e row 1 f var y", "one num 1"),
            (f"let q at f let z num 1 row 2 f one var z g {great} for x var q one var x", "one num 1"),
        ):
            self.assertEqual(question_shown(self.short(read_question(text))), wanted)

    def test_lets_that_double(self):
        text = "let va one num 1 " + " ".join(f"let v{b} both var v{a} var v{a}" for a,
                                              b in zip("abcdefghi", "bcdefghij"))
        told = self.short(read_question(text + " var vj"))
        self.assertEqual(sorted(question_shown(told).split()), sorted(("both " * 511 + "one num 1 " * 512).split()))
        self.assertEqual(answer(told, {}, {}), bag((num(1), 512)))
        text = "let va row 2 a num 1 b num 2 " + " ".join(
            f"let v{b} row 2 a var v{a} b var v{a}" for a, b in zip(LETTERS[:13], LETTERS[1:14]))
        self.assertEqual(question_shown(self.short(read_question(text + " num 5"))), "num 5")
        told = self.short(read_question(text + " at a at b at a at b var vn"))
        self.assertEqual(size(told), 2 ** 11 - 1)

    def test_for_s_in_a_long_row(self):
        # Told is a question of 65 for's within one another.
        text = "let va for u table n one var u " + " ".join(
            f"let v{b} for u var v{a} for u var v{a} one var u" for a, b in zip("abcdef", "bcdefg"))
        told = self.short(read_question(text + " for u var vg for w table m one add var u var w"))
        self.assertEqual(len([knot for knot in knots(told) if knot[0] == "for"]), 65)
        self.assertTrue(is_short(told))
        self.assertEqual(answer(told, {}, {"n": bag((num(3), -1)), "m": bag((num(4), 2))}), bag((num(7), 2)))

    def test_deeper_than_calls_may_go(self):
        def composed(depth, name):
            if depth == 0:
                return ("add", ("var", name), ("num", 1))
            bound = "x" + LETTERS[depth]
            return ("let", bound, composed(depth - 1, name), composed(depth - 1, bound))
        question = ("one", ("let", "x", ("num", 0), composed(7, "x")))
        told = self.short(question)
        self.assertEqual(question_shown(told), "one " + "add " * 128 + "num 0" + " num 1" * 128)
        self.assertEqual(len(plain_paths(told)), 258)
        whole = ("table", "n")
        for turn in range(900):
            whole = ("times", 1, ("both", whole, ("none", NUM)))
        self.assertEqual(question_shown(self.short(whole)),
                         "both " * 900 + "times 1 table n" + " times 1 none num" * 900)
