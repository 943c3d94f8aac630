import unittest

from keptnest.asks.answers import answer
from keptnest.asks.kinds import kind_of
from keptnest.asks.questions import question_shown, read_question
from keptnest.errors import NoTurning
from keptnest.turns.rules import turned
from makers import STOCK, drawn_open
from plainly import plain_answer
from plainturns import CLAIMS, LONG, SHORT, plain_paths, plain_turned
from samples import ALL_WORDS, GREAT, TAKEN_WORDS

# Each rule: the question, where, and what it is turned to. In "at the top" the path is ().
BY_RULE = {
    "atrow": (
        ("at f row 1 f num 3", "num 3"), ("at g row 3 f num 1 g table n h num 2", "table n"),
        ("at f row 2 e var x f at f row 1 f num 1", "at f row 1 f num 1"),
    ),
    "letin": (
        ("let x num 1 num 2", "num 2"), ("let x num 1 add var x var x", "add num 1 num 1"),
        ("let x var x add var x var x", "add var x var x"), ("let x table n for x var x one var x",
                                                             "for x table n one var x"),
        ("let x num 1 let x var x var x", "let x num 1 var x"),
        ("let x var y for y table n one add var x var y", "for a table n one add var y var a"),
        ("let x var a for a table n one add var x var a", "for b table n one add var a var b"),
        ("let x var y both for y table n one add var x var y for y table n one var y",
         "both for a table n one add var y var a for y table n one var y"),
        ("let x var y for y for y table n one var x let y var x one add var x var y",
         "for a for b table n one var y let c var y one add var y var c"),
    ),
    "forone": (
        ("for x one num 1 one var x", "let x num 1 one var x"), ("for x one var x var x", "let x var x var x"),
    ),
    "forfor": (
        ("for y for x table n one var x one var y", "for x table n for y one var x one var y"),
        ("for y for x table n one var x one add var x var y", "for a table n for y one var a one add var x var y"),
        ("for y for x var x one var x one add var x var y", "for a var x for y one var a one add var x var y"),
        # Of one name: what S has is the outer one's, and stays so.
        ("for x for x table n one var x one var x", "for x table n for x one var x one var x"),
        ("for y for x table n one var y one var y", "for x table n for y one var y one var y"),
        ("for y for x table n for a table m one add var x var a one var x",
         "for b table n for y for a table m one add var b var a one var x"),
        ("for y for x table n for x table m one var x one var x",
         "for a table n for y for x table m one var x one var x"),
        ("for y for x table n one var x for x table m one var x",
         "for x table n for y one var x for x table m one var x"),
    ),
    "forboth": (
        ("for x both table n table m one var x", "both for x table n one var x for x table m one var x"),
        ("for x both var x table m var x", "both for x var x var x for x table m var x"),
    ),
    "fortimes": (
        ("for x times 3 table n one var x", "times 3 for x table n one var x"),
        ("for x times 0 times -1 table n one num 1", "times 0 for x times -1 table n one num 1"),
    ),
    "forwhen": (
        ("for x when same num 1 num 2 table n one var x", "when same num 1 num 2 for x table n one var x"),
        ("for x when same var x num 2 table n one var x", "when same var x num 2 for x table n one var x"),
    ),
    "bothin": (
        ("for x table n both one var x table m", "both for x table n one var x for x table n table m"),
        ("for x both var x var x both var x var y", "both for x both var x var x var x for x both var x var x var y"),
    ),
    "timesin": (
        ("for x table n times -2 one var x", "times -2 for x table n one var x"),
        ("for x times 2 var x times 3 var x", "times 3 for x times 2 var x var x"),
    ),
    "whenboth": (
        ("when same num 1 num 2 both table n table m",
         "both when same num 1 num 2 table n when same num 1 num 2 table m"),
    ),
    "whentimes": (("when under num 1 num 2 times 4 table n", "times 4 when under num 1 num 2 table n"),),
    "whenfor": (
        ("when same num 1 var y for x table n one var x", "for x table n when same num 1 var y one var x"),
        ("when same num 1 var x for x table n one var x", "for a table n when same num 1 var x one var a"),
        ("when same num 1 var x for x var x for a table n one add var a var x",
         "for b var x when same num 1 var x for a table n one add var a var b"),
        ("when same num 1 let x num 1 var x for x table n one var x",
         "for x table n when same num 1 let x num 1 var x one var x"),
        ("when same num 1 var x for x table n for x table m one var x",
         "for a table n when same num 1 var x for x table m one var x"),
        ("when same num 1 var x for x table n one num 1", "for a table n when same num 1 var x one num 1"),
    ),
    "whenwhen": (
        ("when same num 1 num 2 when under num 3 num 4 table n",
         "when and same num 1 num 2 under num 3 num 4 table n"),
        ("when and same num 1 num 2 same num 5 num 6 when not same num 3 num 4 table n",
         "when and and same num 1 num 2 same num 5 num 6 not same num 3 num 4 table n"),
    ),
    "timestimes": (
        ("times 2 times 3 table n", "times 6 table n"), ("times 0 times 3 table n", "times 0 table n"),
        ("times -2 times -3 times 5 table n", "times 6 times 5 table n"),
        (f"times {GREAT} times {GREAT} table n", f"times {GREAT * GREAT} table n"),
    ),
    "timesboth": (("times 2 both table n table m", "both times 2 table n times 2 table m"),),
    "swapboth": (
        ("both table n table m", "both table m table n"), ("both both table n table m var x",
                                                           "both var x both table n table m"),
    ),
    "groupboth": (
        ("both both table n table m var x", "both table n both table m var x"),
        ("both both both table n table m var x var y", "both both table n table m both var x var y"),
    ),
    "timesone": (("times 1 table n", "table n"), ("times 1 times 1 var x", "times 1 var x")),
    "unfor": (
        ("for x table n one var x", "table n"), ("for x var x one var x", "var x"),
        ("for x for x table n one num 1 one var x", "for x table n one num 1"),
    ),
    "swapfor": (
        ("for x table n for y table m one add var x var y", "for y table m for x table n one add var x var y"),
        ("for x var y for y table m one add var x var y", "for a table m for x var y one add var x var a"),
        ("for x table n for y var y one add var x var y", "for y var y for x table n one add var x var y"),
        # Of one name: what is asked of it is the inner one's.
        ("for x table n for x table m one var x", "for x table m for a table n one var x"),
        ("for x var x for x table m one var x", "for a table m for x var x one var a"),
        ("for x var x for x table m one num 1", "for a table m for x var x one num 1"),
        # The outer one of that name is renamed also where nothing is asked of it within, or it is bound again there.
        ("for x table n for x table m one num 1", "for x table m for a table n one num 1"),
        ("for x table n for x table n table n", "for x table n for a table n table n"),
        ("for x table n for x table m for x table n one var x", "for x table m for a table n for x table n one var x"),
        ("for x table n for x table m let x num 1 one var x", "for x table m for a table n let x num 1 one var x"),
        ("for x table n for x for y table m one var y var z", "for x for y table m one var y for a table n var z"),
        ("for x var x for x table m for x table n one var x", "for a table m for x var x for x table n one var x"),
        ("for x table n for x table m for x var x one var x", "for x table m for a table n for x var x one var x"),
        ("for x var y for y table m for y var y one add var x var y",
         "for a table m for x var y for y var a one add var x var y"),
        ("for x table a for x table b one var x", "for x table b for c table a one var x"),
    ),
}
# Each rule with what it does not fit.
FITS_NOT = {
    "atrow": ("at f var x", "at f row 1 g num 1", "at f row 0", "row 1 f num 1", "at f let x num 1 row 1 f num 1",
              "at f at g row 1 g row 1 f num 1", "num 1"),
    "letin": ("for x one num 1 one var x", "num 1", "one let x num 1 num 2", "var x"),
    "forone": ("for x table n one var x", "let x one num 1 var x", "for x both one num 1 one num 2 one num 1",
               "one num 1"),
    "forfor": ("for x table n for y table m one num 1", "for x let y num 1 table n table m", "table n"),
    "forboth": ("for x table n both table n table m", "both for x table n table m table n", "for x table n table m"),
    "fortimes": ("for x table n times 2 table n", "times 2 for x table n table n", "for x table n table m"),
    "forwhen": ("for x table n when same num 1 num 1 table n", "when same num 1 num 1 for x table n table n"),
    "bothin": ("for x both table n table m table n", "both table n table m", "let x num 1 both table n table m"),
    "timesin": ("for x times 2 table n table n", "times 2 table n", "let x num 1 times 2 table n"),
    "whenboth": ("when same num 1 num 1 table n", "both table n when same num 1 num 1 table n", "table n"),
    "whentimes": ("when same num 1 num 1 both table n table m", "times 2 when same num 1 num 1 table n"),
    "whenfor": ("when same num 1 num 1 let x num 1 table n", "for x table n when same num 1 num 1 table n"),
    "whenwhen": ("when same num 1 num 1 table n", "when same num 1 num 1 times 1 when same num 1 num 1 table n"),
    "timestimes": ("times 2 table n", "times 2 both table n table m", "times 1 when same num 1 num 1 times 1 table n"),
    "timesboth": ("both times 2 table n times 2 table m", "times 2 table n", "times 2 times 2 table n"),
    "swapboth": ("times 2 both table n table m", "add num 1 num 2", "table n"),
    "groupboth": ("both table n both table m table n", "both table n table m",
                  "both times 1 both table n table n table n"),
    "timesone": ("times 2 table n", "times 0 table n", "times -1 table n", "table n", "one num 1"),
    "unfor": ("for x table n one var y", "for x table n one at a var x", "for x table n var x",
              "for x table n one num 1",
              "let x table n one var x", "for x table n times 1 one var x"),
    "swapfor": ("for x table n for y var x one num 1", "for x table n for x var x one var x", "for x table n one var x",
                "for x table n for y for z var x one var z one num 1", "for x table n let y table n one num 1",
                "for x for y table n one var y one num 1"),
}
NO_RULES = (
    "", "x", "for", "FORONE", "forone ", " forone", "forone*", "atrow*", "let", "letIn", "shortened", "short", "turn",
    "at", "both", "unlet", "forlet", "whenone", "get", "keys", "swap", "timesin2", "0", "None",
)
# Where a question may stand below others: what stands ahead, and behind, and the path.
AROUND = (
    ("", "", ()), ("times 7 ", "", (0,)), ("both none num ", "", (1,)), ("one row 2 f num 1 g ", "", (0, 1)),
    ("let zz num 1 ", "", (1,)), ("for zz table o ", "", (1,)), ("let zz ", " one num 1", (0,)),
    ("when not same num 1 at k row 1 k ", " table o", (0, 0, 1, 0, 0)),
    ("at k row 2 j num 1 k one one ", "", (0, 1, 0, 0)),
)


class TestRules(unittest.TestCase):
    def refused(self, question, path, rule):
        with self.assertRaises(NoTurning, msg=(question, path, rule)) as caught:
            turned(question, path, rule)
        self.assertIs(type(caught.exception), NoTurning)

    def test_each_by_hand(self):
        self.assertEqual(list(BY_RULE), SHORT + LONG)
        for rule, cases in BY_RULE.items():
            for text, wanted in cases:
                for first, last, path in AROUND:
                    question = read_question(first + text + last)
                    self.assertEqual(question_shown(turned(question, path, rule)), first + wanted + last, rule)

    def test_new_names_stand_nowhere_in_the_whole_question(self):
        self.assertEqual(
            question_shown(turned(read_question("both table a when same num 1 var x for x table n one var x"), (1,),
                                  "whenfor")), "both table a for b table n when same num 1 var x one var b")
        for taken in ("table a", "one word a", "one at a row 1 a num 1", "one var a", "none row 1 a num",
                      "for a table n one num 1", "let a num 1 table n", "one row 1 a num 1", "none bag row 1 a num"):
            for rule, text, wanted in (
                ("letin", "let x var y for y table n one add var x var y", "for b table n one add var y var b"),
                ("forfor", "for y for x table n one var x one var x", "for b table n for y one var b one var x"),
                ("whenfor", "when same num 1 var x for x table n one var x",
                 "for b table n when same num 1 var x one var b"),
                ("swapfor", "for x var y for y table n one var y", "for b table n for x var y one var b"),
                ("swapfor", "for x table n for x table m one var x", "for x table m for b table n one var x"),
                ("swapfor", "for x table n for x table m one num 1", "for x table m for b table n one num 1"),
            ):
                self.assertEqual(question_shown(turned(read_question(f"both {taken} {text}"), (1,), rule)),
                                 f"both {taken} {wanted}")
                self.assertEqual(question_shown(turned(read_question(f"both {text} {taken}"), (0,), rule)),
                                 f"both {wanted} {taken}")

    def test_where_it_does_not_fit(self):
        self.assertEqual(list(FITS_NOT), SHORT + LONG)
        for rule, texts in FITS_NOT.items():
            for text in texts:
                for first, last, path in AROUND:
                    self.refused(read_question(first + text + last), path, rule)

    def test_each_rule_at_each_question_by_hand(self):
        for other, cases in BY_RULE.items():
            for text, wanted in cases:
                question = read_question(text)
                for path, knot in plain_paths(question):
                    for rule in SHORT + LONG:
                        self.same_as_plain(question, path, rule)

    def same_as_plain(self, question, path, rule):
        wanted = plain_turned(question, path, rule)
        if wanted is None:
            self.refused(question, path, rule)
        else:
            self.assertEqual(turned(question, path, rule), wanted, (question_shown(question), path, rule))
        return wanted

    def test_words_that_are_no_rules(self):
        for rule in NO_RULES + tuple(TAKEN_WORDS):
            for text in (ALL_WORDS, "times 1 table n", "for x one num 1 one var x", "num 1"):
                for path in ((), (0,), (1,), (9,)):
                    self.refused(read_question(text), path, rule)

    def test_paths_that_lead_nowhere(self):
        for rule, cases in BY_RULE.items():
            for text, wanted in cases:
                question = read_question(text)
                for path in ((-1,), (2,), (0, -1), (1, 5), (GREAT,), (-GREAT, 0), (0, 0, 0, 0, 0, 0, 0, 0), (7, 0)):
                    self.refused(question, path, rule)
                    self.refused(("times", 2, question), (1,) + path, rule)

    def test_paths_that_lead_to_a_claim(self):
        whole = read_question(ALL_WORDS)
        claims = [path for path, knot in plain_paths(whole) if knot[0] in CLAIMS]
        self.assertEqual(len(claims), 6)
        for path in claims:
            for rule in SHORT + LONG:
                self.refused(whole, path, rule)
        for rule in SHORT + LONG:
            self.refused(("same", ("num", 1), ("num", 2)), (), rule)
        inner = ("when", ("same", ("at", "f", ("row", (("f", ("num", 1)),))), ("num", 2)), ("table", "n"))
        self.assertEqual(question_shown(turned(inner, (0, 0), "atrow")), "when same num 1 num 2 table n")

    def test_drawn(self):
        seen = {}
        for question, kind, kinds, values, store in drawn_open(73, 900):
            ahead = plain_answer(question, values, store)
            for path, knot in plain_paths(question):
                for rule in SHORT + LONG:
                    told = self.same_as_plain(question, path, rule)
                    if told is not None:
                        seen[rule] = seen.get(rule, 0) + 1
                        self.assertEqual(kind_of(told, kinds, STOCK), kind)
                        self.assertEqual(answer(told, values, store), ahead)
        for rule in SHORT + LONG:
            self.assertGreater(seen.get(rule, 0), 5, rule)
