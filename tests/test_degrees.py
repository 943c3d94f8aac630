import unittest

from keptnest.asks.answers import answer
from keptnest.asks.questions import question_shown, read_question
from keptnest.changes.degrees import degree, differences, is_even
from keptnest.changes.differences import changed, difference
from keptnest.errors import NoDifference
from makers import NUM, STOCK, WORD, bag_kind, drawn, row_of
from plainly import plain_degree, plain_even, plain_sum
from samples import nested, num

TABLES = {"n": NUM, "m": NUM, "t": row_of(("a", NUM), ("b", WORD)), "h": bag_kind(NUM)}

EVEN = (
    "table n", "none num", "var z", "one num 1", "one var x", "at of var v", "at f row 1 f none num", "times 3 table n",
    "both table n table m", "both table n one num 1", "for r table n table m", "for r table n one var r",
    "for r table t one at a var r", "for r table h var r", "when same num 1 num 1 table n", "let r num 1 table n",
    "let r none num both var r table n", "for r table n for s table n one row 2 a var r b var s",
    "when same at a row 1 a num 1 num 1 table n", "for r one num 1 table n", "for r at f row 1 f var z table n",
    "when same let r num 1 var r num 1 table n",
)
# What stands within a `one`, an `at` or the binding of a let and names a table, anywhere.
UNEVEN = (
    "one table n", "one row 1 a table n", "one one table n", "one both none num table n", "one let r num 1 table n",
    "at f row 1 f table n", "at f row 2 f none num g table n", "at f at g row 1 g row 1 f table n",
    "let r table n none num",
    "let r table n var r", "let r row 1 f table n none num", "let r one table n none num", "times 0 one table n",
    "both table n for r table m one row 1 f table n", "both one table n one table m", "both one none num one table m",
    "for r table n one table n", "for r one table n var r", "for r one row 1 f table n table m",
    "one for r table n none num",
    "when same num 1 num 1 one table n", "when same at f row 2 f num 1 g table n num 1 table n",
    "when same let r table n num 1 num 1 table n", "when not same num 1 at f row 2 f num 1 g table m none num",
    "when and same num 1 num 1 under let r table n num 1 num 2 table m", "let r num 1 let s table n none num",
    "let r one num 1 one table n", "when or under num 1 at a let r table n row 1 a num 1 same num 1 num 1 table n",
    "for r table n let s table m var s", "one when same let r table n num 1 num 1 none num",
)
# Texts of even questions, their degrees in n, in m, and in both of them.
DEGREES = (
    ("table n", 1, 0, 1), ("table m", 0, 1, 1), ("table t", 0, 0, 0), ("none num", 0, 0, 0), ("one num 1", 0, 0, 0),
    ("at f var v", 0, 0, 0), ("var z", 0, 0, 0), ("at f row 1 f none num", 0, 0, 0),
    ("both table n table m", 1, 1, 1), ("both table n table n", 1, 0, 1), ("both table t none num", 0, 0, 0),
    ("both for r table n table n table n", 2, 0, 2), ("both table n for r table n table n", 2, 0, 2),
    ("times 3 table n", 1, 0, 1), ("times 0 table n", 1, 0, 1), ("times 2 for r table n table m", 1, 1, 2),
    ("when same num 1 num 1 table n", 1, 0, 1), ("when same num 1 num 1 for r table n table n", 2, 0, 2),
    ("for r table n table n", 2, 0, 2), ("for r table n table m", 1, 1, 2), ("for r table n one var r", 1, 0, 1),
    ("for r table m one var r", 0, 1, 1), ("for r table t table n", 1, 0, 1), ("for r none num table n", 1, 0, 1),
    ("for r table n none num", 1, 0, 1), ("for r table n for s table m for v table n one num 1", 2, 1, 3),
    ("for r for s table n table m for s table m table n", 2, 2, 4), ("for r both table n table m table n", 2, 1, 2),
    ("for r for s table n table n for v table n table n", 4, 0, 4), ("let r num 1 table n", 1, 0, 1),
    ("let r none num for s table n table n", 2, 0, 2), ("let r num 1 none num", 0, 0, 0),
    ("for r table n when same var r num 1 both table m for s table n table m", 2, 1, 3),
)


class TestEven(unittest.TestCase):
    def test_of_each_word(self):
        for text in EVEN:
            self.assertIs(is_even(read_question(text)), True, text)
        for text in UNEVEN:
            self.assertIs(is_even(read_question(text)), False, text)

    def test_within_others(self):
        for text, wanted in [(text, True) for text in EVEN] + [(text, False) for text in UNEVEN]:
            for around in ("times 2 {}", "both {} none num", "both table n {}", "for q {} table n", "for q table n {}",
                           "when same num 1 num 1 {}", "let q num 1 {}", "for q table n when under num 1 num 2 {}"):
                self.assertIs(is_even(read_question(around.format(text))), wanted, text)
            for around in ("one {}", "at f row 1 f {}", "let q {} none num", "one row 2 a num 1 b {}"):
                self.assertIs(is_even(read_question(around.format(text))), "table" not in text, text)

    def test_drawn(self):
        seen = [0, 0]
        for question, kind, store, change in drawn(51, 400):
            self.assertIs(is_even(question), plain_even(question), question_shown(question))
            seen[plain_even(question)] += 1
        self.assertGreater(min(seen), 50)

    def test_deep(self):
        self.assertIs(is_even(nested(900, lambda inner: ("times", 2, inner), ("table", "n"))), True)
        self.assertIs(is_even(nested(900, lambda inner: ("times", 2, inner), ("one", ("table", "n")))), False)


class TestDegree(unittest.TestCase):
    def test_of_each_word(self):
        for text, in_n, in_m, in_both in DEGREES:
            question = read_question(text)
            told = [degree(question, names) for names in (["n"], ["m"], ["n", "m"], ["m", "n"], [], ["gone"])]
            self.assertEqual(told, [in_n, in_m, in_both, in_both, 0, 0], text)

    def test_within_others(self):
        for text, in_n, in_m, in_both in DEGREES:
            for around in ("times 2 {}", "when same num 1 num 1 {}", "let q num 1 {}", "both {} none num",
                           "both none num {}", "for q none num {}", "for q {} none num", "for q one num 1 {}"):
                self.assertEqual(degree(read_question(around.format(text)), ["n", "m"]), in_both)
            for around in ("for q table n {}", "for q {} table n"):
                self.assertEqual(degree(read_question(around.format(text)), ["n"]), in_n + 1)
                self.assertEqual(degree(read_question(around.format(text)), ["m"]), in_m)
            for around in ("both table n {}", "both {} table n"):
                self.assertEqual(degree(read_question(around.format(text)), ["n"]), max(in_n, 1))

    def test_drawn(self):
        for question, kind, store, change in drawn(52, 500):
            if plain_even(question):
                for names in (sorted(change), sorted(STOCK), ["t"], []):
                    told = degree(question, names)
                    self.assertEqual(told, plain_degree(question, names), question_shown(question))
                    self.assertIs(type(told), int)

    def test_the_list_stays(self):
        names = ["n", "m"]
        degree(read_question("for r table n table m"), names)
        self.assertEqual(names, ["n", "m"])

    def test_the_difference_is_even_and_of_a_lesser_degree(self):
        seen = 0
        for question, kind, store, change in drawn(53, 1500):
            names = {name: "d" + name for name in change}
            if plain_even(question):
                told = difference(question, names, {}, STOCK)
                ahead = degree(question, list(names))
                self.assertIs(is_even(told), True)
                if ahead == 0:
                    self.assertEqual(told, ("none", kind[1]))
                else:
                    self.assertLess(degree(told, list(names)), ahead)
                    seen += 1
        self.assertGreater(seen, 100)

    def test_deep(self):
        chain = nested(900, lambda inner: ("for", "x", ("table", "n"), inner), ("table", "n"))
        self.assertEqual(degree(chain, ["n"]), 900)


def new_names(names, many):
    """So many dicts of names for the changes, no new name in two of them."""
    return [{name: name + "abcdefgh"[turn] * 3 for name in names} for turn in range(many)]


class TestDifferences(unittest.TestCase):
    def told(self, text, rows, kinds=None, stock=None):
        stock = TABLES if stock is None else stock
        return [question_shown(part) for part in differences(read_question(text), rows, kinds or {}, stock)]

    def test_by_hand(self):
        rows = [{"n": "dn"}, {"n": "en"}, {"n": "fn"}]
        self.assertEqual(self.told("for r table n table n", rows), [
            "for r table n table n",
            "both both for r table dn table n for r table n table dn for r table dn table dn",
            "both for r table dn table en for r table en table dn",
        ])
        self.assertEqual(self.told("table n", rows), ["table n", "table dn"])
        self.assertEqual(self.told("for r table m one var r", rows), ["for r table m one var r"])

    def test_of_what_is_none(self):
        for rows in ([], [{"n": "dn"}], [{}], [{"n": "dn"}, {"n": "en"}]):
            self.assertEqual(self.told("none num", rows), ["none num"])
            self.assertEqual(self.told("table m", rows), ["table m"])

    def test_at_most_as_many_as_told(self):
        text = "for r table n for s table n for v table n one num 1"
        wanted = self.told(text, new_names(["n"], 8))
        self.assertEqual(len(wanted), 4)
        for many in range(8):
            self.assertEqual(self.told(text, new_names(["n"], many)), wanted[:many + 1])

    def test_each_by_the_one_ahead(self):
        rows = new_names(["n", "h"], 3)
        for text in ("one table n", "for r table n for s table h both var s table n", "let r table n both var r var r",
                     "for r one table n both var r table n"):
            told = differences(read_question(text), rows, {}, TABLES)
            stock = dict(TABLES)
            for ahead, behind, names in zip(told, told[1:], rows):
                self.assertEqual(behind, difference(ahead, names, {}, stock))
                stock.update({new: TABLES[old] for old, new in names.items()})
            self.assertEqual(len(told), 4 if not is_even(told[0]) else 1 + degree(told[0], ["n", "h"]))

    def test_other_tables_in_each(self):
        text = "for r table n for s table m one add var r var s"
        self.assertEqual(self.told(text, [{"n": "dn"}, {"m": "dm"}, {"n": "en", "m": "em"}]), [
            text, "for r table dn for s table m one add var r var s",
            "for r table dn for s table dm one add var r var s",
        ])
        self.assertEqual(self.told(text, [{"n": "dn"}, {"n": "en"}, {"m": "dm"}]), [
            text, "for r table dn for s table m one add var r var s",
        ])
        self.assertEqual(self.told(text, [{}, {"n": "dn"}]), [text])

    def test_with_variables_and_with_new_names_in_the_stock(self):
        kinds = {"z": bag_kind(NUM), "x": NUM}
        rows = [{"n": "dn"}, {"n": "en"}]
        wanted = ["for r table n both var z when same var x var r table n",
                  "both both for r table dn both var z when same var x var r table n "
                  "for r table n when same var x var r table dn for r table dn when same var x var r table dn",
                  "both for r table dn when same var x var r table en for r table en when same var x var r table dn"]
        self.assertEqual(self.told(wanted[0], rows, kinds), wanted)
        self.assertEqual(self.told(wanted[0], rows, kinds, {**TABLES, "dn": NUM, "en": NUM}), wanted)

    def test_behind_as_many_as_the_degree_and_one_there_is_none(self):
        seen = 0
        for question, kind, store, change in drawn(54, 1000, most=40):
            names = sorted(change)
            if plain_even(question) and names:
                found = degree(question, names)
                told = differences(question, new_names(names, found + 1), {}, STOCK)
                self.assertLessEqual(len(told), found + 1)
                self.assertEqual(told[0], question)
                for place, part in enumerate(told):
                    self.assertIs(is_even(part), True)
                    self.assertLessEqual(degree(part, names), found - place)
                    self.assertTrue(place == 0 or part[0] != "none")
                seen += found > 1
        self.assertGreater(seen, 20)

    def test_answers_of_differences_of_differences(self):
        # The second difference tells by how much the first one changes: what the one change adds, behind the other less
        # ahead of it.
        for question, kind, store, change in drawn(55, 200, most=40):
            names = sorted(change)
            rows = new_names(names, 2)
            told = differences(question, rows, {}, STOCK)
            first = {new: change[old] for old, new in rows[0].items()}
            second = {new: store[old] for old, new in rows[1].items()}
            if len(told) < 3:
                continue
            ahead = answer(told[1], {}, {**store, **first})
            behind = answer(told[1], {}, {**changed(store, {name: store[name] for name in names}), **first})
            more = answer(told[2], {}, {**store, **first, **second})
            self.assertEqual(more, plain_sum(behind, ahead, -1))

    def test_what_is_no_bag(self):
        for question in (num(1), ("row", ()), ("same", num(1), num(1)), ("row", (("a", ("table", "n")),))):
            with self.assertRaises(NoDifference):
                differences(question, [{"n": "dn"}], {}, TABLES)

    def test_what_is_handed_in_stays_and_what_is_told_is_its_own(self):
        rows, kinds, stock = new_names(["n", "h"], 3), {"x": NUM}, dict(TABLES)
        question = read_question("for r table n for s table h both var s table n")
        told = differences(question, rows, kinds, stock)
        self.assertEqual((rows, kinds, stock), (new_names(["n", "h"], 3), {"x": NUM}, TABLES))
        self.assertEqual(list(stock), list(TABLES))
        wanted = list(told)
        self.assertIsInstance(told, list)
        told.clear()
        self.assertEqual(differences(question, rows, kinds, stock), wanted)
        rows.clear()
        self.assertEqual(differences(question, rows, kinds, stock), [question])
