import unittest

from keptnest.asks.answers import answer
from keptnest.asks.questions import question_shown, read_question
from keptnest.changes.differences import changed
from keptnest.changes.views import View
from keptnest.data.signs import is_name, new_name
from keptnest.data.texts import read, shown
from keptnest.data.values import added, is_value
from keptnest.errors import NoChange
from makers import NUM, STOCK, WORD, Maker, bag_kind, drawn, row_of
from plainly import plain_sum
from samples import GREAT, RISING, TAKEN_WORDS, bag, has_form, nested, num, row, word

TABLES = {"n": NUM, "m": NUM, "t": row_of(("a", NUM), ("b", WORD)), "d": row_of(("k", NUM), ("of", bag_kind(NUM)))}
STORE = {
    "n": read("{1, 2 * 3}"), "m": read("{2 * -1, 5}"), "t": read("{<a: 1, b: 'u> * 2, <a: 2, b: 'v>}"),
    "d": read("{<k: 1, of: {1 * 2}>, <k: 2, of: {}> * 2}"),
}
JOIN = "for r table n for s table m when same var r var s one var r"
NEST = "for r table t one row 2 a at a var r of for s table n when under var s at a var r one var s"
QUESTIONS = (
    "table n", "none num", "one num 3", JOIN, NEST, "for r table n for s table n one add var r var s", "one table n",
    "let x table n both var x var x", "for r table d at of var r", "times -2 both table n table m",
    "at f row 2 f table n g table m", "for r table d one row 2 a at of var r b table m", "times 0 table n",
)
CHANGES = (
    {}, {"n": read("{}")}, {"n": read("{1}")}, {"n": read("{1 * -1}")}, {"n": read("{1 * -1, 2 * -3}")},
    {"m": read("{2 * 4}")}, {"n": read("{2, 5}"), "m": read("{5 * -1}")}, {"t": read("{<a: 1, b: 'u> * -2}")},
    {"d": read("{<k: 2, of: {}> * -2, <k: 2, of: {4}>}")}, {"n": bag((num(7), GREAT)), "m": bag((num(7), -GREAT))},
    {"n": read("{9}"), "m": read("{9}"), "t": read("{<a: 9, b: 'w>}"), "d": read("{<k: 9, of: {9 * 9}>}")},
)


class TestView(unittest.TestCase):
    def view(self, text, store=None):
        return View(read_question(text), TABLES, STORE if store is None else store)

    def test_by_hand(self):
        view = self.view(JOIN)
        self.assertEqual(shown(view.answer()), "{2 * -3}")
        self.assertEqual(shown(view.change({"n": read("{2, 5}")})), "{2 * -1, 5}")
        self.assertEqual(shown(view.answer()), "{2 * -4, 5}")
        self.assertEqual(shown(view.change({"n": read("{5 * -1}"), "m": read("{2, 1 * 2}")})), "{1 * 2, 2 * 4, 5 * -1}")
        self.assertEqual(shown(view.answer()), "{1 * 2}")
        self.assertEqual(shown(view.change({})), "{}")
        self.assertEqual(shown(view.answer()), "{1 * 2}")
        self.assertEqual(view.store(), {**STORE, "n": read("{1, 2 * 4}"), "m": read("{1 * 2, 5}")})

    def test_nested_by_hand(self):
        view = self.view(NEST)
        self.assertEqual(shown(view.answer()), "{<a: 1, of: {}> * 2, <a: 2, of: {1}>}")
        told = view.change({"n": read("{0}")})
        self.assertEqual(
            shown(told), "{<a: 1, of: {}> * -2, <a: 1, of: {0}> * 2, <a: 2, of: {0, 1}>, <a: 2, of: {1}> * -1}")
        self.assertEqual(shown(view.answer()), "{<a: 1, of: {0}> * 2, <a: 2, of: {0, 1}>}")

    def test_made(self):
        for text in QUESTIONS:
            view = self.view(text)
            self.assertEqual(view.answer(), answer(read_question(text), {}, STORE))
            self.assertEqual(view.store(), STORE)

    def test_each_change(self):
        for text in QUESTIONS:
            for change in CHANGES:
                view = self.view(text)
                ahead = view.answer()
                more = view.change(change)
                behind = changed(STORE, change)
                self.assertEqual(view.store(), behind)
                self.assertEqual(view.answer(), answer(read_question(text), {}, behind), (text, change))
                self.assertEqual(more, plain_sum(view.answer(), ahead, -1))
                self.assertTrue(has_form(more) and has_form(view.answer()))

    def test_all_changes_one_behind_the_other(self):
        for text in QUESTIONS:
            view, store = self.view(text), STORE
            for change in CHANGES + CHANGES[::-1]:
                view.change(change)
                store = changed(store, change)
                self.assertEqual(view.answer(), answer(read_question(text), {}, store))
                self.assertEqual(view.store(), store)

    def test_two_changes_or_their_sum(self):
        for text in QUESTIONS:
            for one in CHANGES:
                for other in CHANGES:
                    parcels, at_once = self.view(text), self.view(text)
                    total = {name: added(one.get(name, bag()), other.get(name, bag())) for name in {**one, **other}}
                    more = plain_sum(parcels.change(one), parcels.change(other))
                    self.assertEqual(at_once.change(total), more)
                    self.assertEqual(at_once.answer(), parcels.answer())
                    self.assertEqual(at_once.store(), parcels.store())

    def test_tables_that_the_question_does_not_name(self):
        view = self.view("table n")
        self.assertEqual(view.change({"m": read("{4}"), "t": read("{<a: 1, b: 'x>}")}), bag())
        self.assertEqual(view.answer(), STORE["n"])
        self.assertEqual(view.store(), changed(STORE, {"m": read("{4}"), "t": read("{<a: 1, b: 'x>}")}))

    def test_drawn(self):
        seen = 0
        for question, kind, store, change in drawn(61, 500):
            view = View(question, STOCK, store)
            maker = Maker(len(question_shown(question)))
            for turn in range(3):
                ahead, behind = view.answer(), changed(store, change)
                more = view.change(change)
                self.assertEqual(view.answer(), answer(question, {}, behind), question_shown(question))
                self.assertEqual(more, plain_sum(view.answer(), ahead, -1))
                self.assertEqual(view.store(), behind)
                seen += more != bag()
                store, change = behind, maker.change(STOCK)
        self.assertGreater(seen, 150)

    def test_names_of_changes_are_none_of_the_stores(self):
        # Tables of every name of one letter: whatever name a change is given, it is to be none of these.
        stock = {letter: NUM for letter in "abcdefghijklmnopqrstuvwxyz"}
        stock.update({"aa": NUM, "ab": NUM, "ac": NUM})
        store = {name: bag((num(place), 1)) for place, name in enumerate(stock)}
        question = ("none", NUM)
        for name in stock:
            question = ("both", question, ("for", "a", ("table", name), ("table", "a")))
        view = View(question, stock, store)
        for change in ({name: bag((num(place), 2)) for place, name in enumerate(stock)}, {"a": read("{100}")},
                       {"z": read("{100}"), "aa": read("{1}")}):
            store = changed(store, change)
            view.change(change)
            self.assertEqual(view.answer(), answer(question, {}, store))
            self.assertEqual(view.store(), store)

    def test_forty_rows(self):
        stock = {"n": NUM, "m": NUM}
        store = {name: ("bag", tuple((num(k), k % 5 - 2 or 1) for k in range(40))) for name in stock}
        view = View(read_question(JOIN), stock, store)
        change = {name: ("bag", tuple((num(k), k % 3 - 1 or 2) for k in range(20, 60))) for name in stock}
        view.change(change)
        self.assertEqual(view.answer(), answer(read_question(JOIN), {}, changed(store, change)))

    def test_two_views_are_two(self):
        one, other = self.view("table n"), self.view("table n")
        one.change({"n": read("{8}")})
        self.assertEqual((other.answer(), other.store()), (STORE["n"], STORE))


class TestOwn(unittest.TestCase):
    def test_dicts_handed_in_stay(self):
        stock, store = dict(TABLES), dict(STORE)
        view = View(read_question(JOIN), stock, store)
        change = {"n": read("{5}"), "m": read("{1}")}
        kept = dict(change)
        view.change(change)
        self.assertEqual((stock, store, change), (TABLES, STORE, kept))
        self.assertEqual((list(stock), list(store), list(change)), (list(TABLES), list(STORE), list(kept)))

    def test_dicts_changed_later(self):
        stock, store = dict(TABLES), dict(STORE)
        view = View(read_question(JOIN), stock, store)
        stock.clear()
        store.clear()
        change = {"n": read("{5}")}
        view.change(change)
        change["n"] = bag()
        change["m"] = read("{1}")
        behind = changed(STORE, {"n": read("{5}")})
        self.assertEqual(view.store(), behind)
        self.assertEqual(view.answer(), answer(read_question(JOIN), {}, behind))
        stock["new"] = NUM
        with self.assertRaises(NoChange):
            view.change({"new": read("{1}")})

    def test_what_is_told_is_the_askers_own(self):
        view = View(read_question(JOIN), TABLES, STORE)
        told = view.store()
        told["n"] = bag()
        told.pop("m")
        self.assertEqual(view.store(), STORE)
        kept, ahead = view.store(), view.answer()
        view.change({"n": read("{5}")})
        self.assertEqual((kept, shown(ahead)), (STORE, "{2 * -3}"))
        self.assertEqual(view.answer(), answer(read_question(JOIN), {}, changed(STORE, {"n": read("{5}")})))


class TestRefused(unittest.TestCase):
    NO_BAGS_OF_N = (
        num(1), word("a"), row(), row(("a", bag())), read("{'a}"), read("{1, 'a}"), read("{{}}"), read("{<a: 1>}"),
        read("{1, 2 * -3, <>}"), read("{{1}}"),
    )
    NO_BAGS_OF_D = (
        read("{1}"), read("{<k: 1>}"), read("{<k: 1, of: 1>}"), read("{<k: 1, of: {'a}>}"), read("{<k: 'a, of: {}>}"),
        read("{<k: 1, of: {}, z: 1>}"), read("{<j: 1, of: {}>}"), read("<k: 1, of: {}>"), read("{<k: 1, of: {1, {}}>}"),
        read("{<k: 1, of: {}>, <k: 1, of: {1, 'a}>}"),
    )
    # What is no value, as it stands against [4] in one place.
    NO_VALUES = (
        None, 1, "n", "{1}", (), ("bag",), ("bag", None), ("bag", 1), ("bag", []), ("bag", [(num(1), 1)]), ["bag", ()],
        ("bag", ((num(1), 0),)), ("bag", ((num(1), True),)), ("bag", ((num(1), "1"),)), ("bag", ((num(1),),)),
        ("bag", (num(1),)), ("bag", ((num(1), 1, 1),)), ("bag", ((num(2), 1), (num(1), 1))), ("bag", ([num(1), 1],)),
        ("bag", ((num(1), 1), (num(1), 1))), ("bag", ((("num", True), 1),)), ("bag", ((("num", "1"), 1),)),
        ("bag", ((("num",), 1),)), ("bag", ((1, 1),)), ("bag", ((None, 1),)), ("bag", (), ()),
        ("bag", ((num(1), None),)),
        ("bag", ((("num", 1, 2), 1),)), ("bag", (((1, 2), 1),)), ("num", 1), (("bag",), ()), ("sack", ()),
        ("bag", ((["num", 1], 1),)), ("bag", ((("num", None), 1),)), {}, [], ("bag", {}),
    )

    def refused(self, change, view):
        ahead = (view.answer(), view.store())
        with self.assertRaises(NoChange, msg=repr(change)) as caught:
            view.change(change)
        self.assertIs(type(caught.exception), NoChange)
        self.assertEqual((view.answer(), view.store()), ahead)

    def views(self):
        return [View(read_question(text), TABLES, STORE) for text in ("table n", JOIN, "none num", "table d")]

    def test_a_table_that_there_is_not(self):
        for view in self.views():
            for name in ("gone", "x", "a", "nn", "N", "", "num", "r"):
                for rows in (bag(), read("{1}")):
                    self.refused({name: rows}, view)
                    self.refused({"n": read("{1}"), name: rows}, view)
                    self.refused({name: rows, "n": read("{1}")}, view)

    def test_what_is_no_bag_of_its_rows(self):
        for view in self.views():
            for name, found in (("n", self.NO_BAGS_OF_N), ("d", self.NO_BAGS_OF_D)):
                for rows in found:
                    self.refused({name: rows}, view)
                    self.refused({"m": read("{1}"), name: rows}, view)
                    self.refused({name: rows, "m": read("{1}")}, view)

    def test_what_is_no_value(self):
        for view in self.views():
            for rows in self.NO_VALUES:
                self.refused({"n": rows}, view)
                self.refused({"m": read("{1}"), "n": rows}, view)
                self.refused({"d": bag((row(("k", num(1)), ("of", rows)), 1))}, view)

    def test_rows_whose_fields_are_not_told_so(self):
        parts = (("a", num(1)), ("b", word("x")))
        stock = {"t": TABLES["t"]}
        view = View(("table", "t"), stock, {"t": bag()})
        view.change({"t": bag((("row", parts), 1))})
        for wrong in (parts[::-1], parts[:1] + parts, parts + parts[1:], list(parts), (("a", 1), parts[1]), (parts[0],),
                      (list(parts[0]), parts[1]), (parts[0] + (1,), parts[1]), ((1, num(1)), parts[1]), "ab", None,
                      (parts[0], ("b", ("word", "X"))), (parts[0], ("b", ("word", "num"))),
                      (parts[0], ("b", ("word", 1)))):
            self.refused({"t": bag((("row", wrong), 1))}, view)

    def test_behind_a_refusal_all_goes_on(self):
        view = View(read_question(JOIN), TABLES, STORE)
        for rows in self.NO_BAGS_OF_N:
            self.refused({"n": rows}, view)
        view.change({"n": read("{5}")})
        self.assertEqual(view.answer(), answer(read_question(JOIN), {}, changed(STORE, {"n": read("{5}")})))

    def test_the_empty_bag_is_one_of_every_tables_rows(self):
        for view in self.views():
            self.assertEqual(view.change({name: bag() for name in TABLES}), bag())

    def test_deep_rows(self):
        stock = {"h": nested(12, bag_kind, NUM)}
        view = View(("table", "h"), stock, {"h": bag()})
        deep = nested(13, lambda value: bag((value, 1)), num(1))
        view.change({"h": deep})
        self.assertEqual(view.answer(), deep)
        self.refused({"h": deep[1][0][0]}, view)
        self.refused({"h": bag((deep, 1))}, view)
        self.refused({"h": nested(13, lambda value: bag((value, 1)), word("a"))}, view)


class TestForms(unittest.TestCase):
    def test_values_are_values(self):
        for value in RISING + (nested(500, lambda part: bag((part, 1)), num(1)),):
            self.assertIs(is_value(value), True)

    def test_others_are_none(self):
        for thing in TestRefused.NO_VALUES:
            self.assertIs(is_value(thing), thing == num(1), thing)
        one, other = ("a", num(1)), ("b", num(1))
        for parts in ((other, one), (one, one), (one, other, one), (("A", num(1)),), (("row", num(1)),)):
            self.assertIs(is_value(row(*parts)), False, parts)
            self.assertIs(is_value(bag((row(*parts), 1))), False, parts)

    def test_new_names(self):
        self.assertEqual(new_name([]), "a")
        self.assertEqual(new_name(["a", "b", "d"]), "c")
        letters = list("abcdefghijklmnopqrstuvwxyz")
        self.assertEqual(new_name(letters), "aa")
        self.assertEqual(new_name(letters + ["aa"]), "ab")
        self.assertEqual(new_name(letters + ["a" + letter for letter in letters]), "ba")
        taken = []
        for turn in range(30 + 26 * 26):
            taken.append(new_name(taken))
        self.assertEqual(taken, sorted(set(taken), key=lambda name: (len(name), name)))
        self.assertTrue(all(is_name(name) for name in taken))
        self.assertEqual([name for name in TAKEN_WORDS if name in taken], [])
        self.assertEqual(taken[-1], "aaf")
