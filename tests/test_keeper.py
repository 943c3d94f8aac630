import unittest

from keptnest.asks.questions import question_shown, read_question
from keptnest.changes.differences import changed
from keptnest.changes.keeper import Keeper
from keptnest.data.texts import read, shown
from keptnest.errors import NoChange, NoKeep
from keptnest.turns.shorter import shortened
from makers import NUM, STOCK, WORD, Maker, bag_kind, drawn, row_of
from plainly import plain_answer
from plainturns import LONG, SHORT, plain_paths, plain_turned
from samples import bag, has_form, num

TABLES = {"n": NUM, "m": NUM, "t": row_of(("a", NUM), ("b", WORD)), "d": row_of(("k", NUM), ("of", bag_kind(NUM)))}
STORE = {
    "n": read("{1, 2 * 3}"), "m": read("{2 * -1, 5}"), "t": read("{<a: 1, b: 'u> * 2, <a: 2, b: 'v>}"),
    "d": read("{<k: 1, of: {1 * 2}>, <k: 2, of: {}> * 2}"),
}
JOIN = "for r table n for s table m when same var r var s one var r"
SWAPPED = "for s table m for r table n when same var r var s one var r"
NEST = "for r table t one row 2 a at a var r of for s table n when under var s at a var r one var s"
NO_BAG_QUESTIONS = (
    "num 1", "word a", "row 0", "row 1 a table n", "at a row 1 a num 1", "add num 1 num 2", "let x table n num 1",
    # Of no kind: free variables, tables that there are not, and faults within.
    "var x", "one var x", "for x table n one var y", "table gone", "for x table n table gone", "both table n table t",
    "for x num 1 one num 1", "at a table n", "times 2 num 1", "when same num 1 word a table n", "table x",
)
BAD_CHANGES = (
    {"gone": bag()}, {"x": read("{1}")}, {"n": num(1)}, {"n": read("{'a}")}, {"n": read("{1, {}}")}, {"t": read("{1}")},
    {"d": read("{<k: 1, of: {'a}>}")}, {"n": read("{1}"), "gone": read("{1}")}, {"m": read("{'a}"), "n": read("{1}")},
    {"n": None}, {"n": ("bag", ((num(1), 0),))}, {"n": ("bag", ((num(2), 1), (num(1), 1)))}, {"t": read("{<a: 1>}")},
)


class KeeperTest(unittest.TestCase):
    def keeper(self, **kept):
        keeper = Keeper(TABLES, STORE)
        for name, text in kept.items():
            self.assertIsNone(keeper.keep(name, read_question(text)))
        return keeper

    def all_told(self, keeper):
        return (keeper.names(), {name: keeper.told(name) for name in keeper.names()}, keeper.store())

    def refused(self, error, keeper, deed, *handed):
        ahead = self.all_told(keeper)
        with self.assertRaises(error, msg=handed) as caught:
            getattr(keeper, deed)(*handed)
        self.assertIs(type(caught.exception), error)
        self.assertEqual(self.all_told(keeper), ahead)


class TestDeeds(KeeperTest):
    def test_begun(self):
        keeper = Keeper(TABLES, STORE)
        self.assertEqual((keeper.names(), keeper.store()), ([], STORE))
        empty = Keeper({}, {})
        self.assertEqual((empty.names(), empty.store()), ([], {}))
        empty.keep("a", ("one", num(1)))
        empty.change({})
        empty.parcel([])
        self.assertEqual(empty.told("a"), bag((num(1), 1)))

    def test_keep_and_tell(self):
        keeper = self.keeper(z="table n", b=JOIN, aa=NEST)
        self.assertEqual(keeper.names(), ["aa", "b", "z"])
        self.assertEqual(shown(keeper.told("z")), "{1, 2 * 3}")
        self.assertEqual(shown(keeper.told("b")), "{2 * -3}")
        self.assertEqual(shown(keeper.told("aa")), "{<a: 1, of: {}> * 2, <a: 2, of: {1}>}")

    def test_one_question_under_several_names(self):
        keeper = self.keeper(a=JOIN, b=JOIN)
        keeper.change({"n": read("{2}")})
        keeper.throw("a")
        self.assertEqual((keeper.names(), shown(keeper.told("b"))), (["b"], "{2 * -4}"))

    def test_throw(self):
        keeper = self.keeper(a="table n", b="table m")
        self.assertIsNone(keeper.throw("a"))
        self.assertEqual(keeper.names(), ["b"])
        self.refused(NoKeep, keeper, "told", "a")
        keeper.keep("a", read_question("table m"))
        self.assertEqual(keeper.told("a"), STORE["m"])

    def test_changes_by_hand(self):
        keeper = self.keeper(a=JOIN, b="table n")
        self.assertIsNone(keeper.change({"n": read("{2, 5}")}))
        self.assertEqual((shown(keeper.told("a")), shown(keeper.told("b"))), ("{2 * -4, 5}", "{1, 2 * 4, 5}"))
        self.assertIsNone(keeper.parcel([{"n": read("{5 * -1}")}, {}, {"m": read("{2, 1 * 2}")}, {"n": read("{1}")}]))
        self.assertEqual((shown(keeper.told("a")), shown(keeper.told("b"))), ("{1 * 4}", "{1 * 2, 2 * 4}"))
        self.assertEqual(keeper.store(), {**STORE, "n": read("{1 * 2, 2 * 4}"), "m": read("{1 * 2, 5}")})

    def test_kept_behind_changes(self):
        keeper = self.keeper()
        keeper.change({"n": read("{9}")})
        keeper.keep("a", read_question("table n"))
        self.assertEqual(shown(keeper.told("a")), "{1, 2 * 3, 9}")

    def test_parcels_and_single_changes_are_one(self):
        changes = [{"n": read("{7}")}, {"m": read("{7 * 2}"), "n": read("{2 * -3}")}, {},
                   {"t": read("{<a: 7, b: 'w>}")}]
        for cuts in ((), (1,), (2,), (1, 2), (1, 2, 3), (0, 4)):
            keeper = self.keeper(a=JOIN, b=NEST, c="one table m")
            for start, end in zip((0,) + cuts, cuts + (4,)):
                keeper.parcel(changes[start:end])
            store = STORE
            for change in changes:
                store = changed(store, change)
            self.assertEqual(keeper.store(), store)
            for name, text in (("a", JOIN), ("b", NEST), ("c", "one table m")):
                self.assertEqual(keeper.told(name), plain_answer(read_question(text), {}, store))


class TestOffers(KeeperTest):
    CHAIN = (((), "swapfor"),)

    def test_by_a_chain(self):
        keeper = self.keeper(a=JOIN)
        self.assertIsNone(keeper.offer("b", "a", self.CHAIN, read_question(SWAPPED)))
        self.assertIsNone(keeper.offer("c", "b", self.CHAIN, read_question(JOIN)))
        self.assertIsNone(keeper.offer("d", "a", (), read_question(JOIN)))
        self.assertEqual(keeper.names(), ["a", "b", "c", "d"])
        for change in ({}, {"n": read("{2, 5}")}, {"m": read("{2 * 2}")}):
            keeper.change(change)
            self.assertEqual({shown(keeper.told(name)) for name in "abcd"},
                             {shown(plain_answer(read_question(JOIN), {}, keeper.store()))})
        keeper.throw("a")
        keeper.change({"n": read("{2 * 7}")})
        self.assertEqual(keeper.told("d"), plain_answer(read_question(JOIN), {}, keeper.store()))
        self.assertEqual(keeper.told("b"), keeper.told("c"))

    def test_shortened(self):
        for text in ("let q table n for r both var q var q one var r", "for r for s table n one var s one num 1", NEST):
            keeper = self.keeper(a=text)
            told, chain = shortened(read_question(text))
            keeper.offer("b", "a", chain, told)
            keeper.change({"n": read("{1 * -1, 8}")})
            self.assertEqual(keeper.told("a"), keeper.told("b"))

    def test_refused(self):
        keeper = self.keeper(a=JOIN, b="table n")
        for name, elder, chain, text in (
            # A name that is kept; an elder that is not.
            ("a", "b", (), "table n"), ("b", "a", self.CHAIN, SWAPPED), ("a", "a", (), JOIN), ("c", "d", (), JOIN),
            ("c", "c", (), JOIN), ("a", "z", (), JOIN), ("c", "", (), JOIN),
            # A chain that does not lead to the question, or nowhere.
            ("c", "a", self.CHAIN, JOIN), ("c", "a", (), SWAPPED), ("c", "b", (), JOIN),
            ("c", "a", self.CHAIN * 2, SWAPPED),
            ("c", "a", (((0,), "swapfor"),), SWAPPED), ("c", "a", (((), "letin"),), SWAPPED), ("c", "b", (), "table m"),
            ("c", "a", (((), "no"),), JOIN), ("c", "a", (((5,), "swapfor"),), JOIN),
            ("c", "a", (((-1,), "swapfor"),), JOIN),
            ("c", "a", self.CHAIN + (((), "timesone"),), SWAPPED), ("c", "b", (((), ""),), "table n"),
            ("c", "a", (), "for r table n for s table m when same var s var r one var r"),
            ("c", "a", (), "for q table n for s table m when same var q var s one var q"),
        ):
            self.refused(NoKeep, keeper, "offer", name, elder, chain, read_question(text))
        for text in NO_BAG_QUESTIONS:
            self.refused(NoKeep, keeper, "offer", "c", "a", (), read_question(text))
        self.refused(NoKeep, keeper, "offer", "c", "a", (), ("same", num(1), num(1)))

    def test_deeper_than_calls_may_go(self):
        whole, many = ("table", "n"), 700
        for turn in range(many):
            whole = ("both", whole, ("table", "n"))
        keeper = Keeper({"n": NUM}, {"n": bag((num(1), 1))})
        keeper.keep("a", whole)
        told = ("both", whole[2], ("both", whole[1][2], whole[1][1]))
        keeper.offer("b", "a", (((), "swapboth"), ((1,), "swapboth")), told)
        keeper.change({"n": bag((num(2), 1))})
        self.assertEqual(keeper.told("b"), bag((num(1), many + 1), (num(2), many + 1)))
        self.refused(NoKeep, keeper, "offer", "c", "a", (), told)


class TestRefused(KeeperTest):
    def test_names(self):
        keeper = self.keeper(a="table n", b=JOIN)
        for name in ("a", "b"):
            for text in ("table n", "table m", JOIN):
                self.refused(NoKeep, keeper, "keep", name, read_question(text))
        for name in ("c", "aa", "", "n", "num"):
            self.refused(NoKeep, keeper, "throw", name)
            self.refused(NoKeep, keeper, "told", name)
        keeper.throw("a")
        self.refused(NoKeep, keeper, "throw", "a")

    def test_questions(self):
        keeper = self.keeper(a="table n")
        for text in NO_BAG_QUESTIONS:
            self.refused(NoKeep, keeper, "keep", "c", read_question(text))
            self.refused(NoKeep, keeper, "keep", "a", read_question(text))
        for claim in (("same", num(1), num(1)), ("not", ("under", num(1), num(2)))):
            self.refused(NoKeep, keeper, "keep", "c", claim)

    def test_changes(self):
        for keeper in (self.keeper(), self.keeper(a="table n"), self.keeper(a=JOIN, b=NEST, c="one num 1")):
            for change in BAD_CHANGES:
                self.refused(NoChange, keeper, "change", change)

    def test_parcels_with_a_bad_change_amid(self):
        good = [{"n": read("{4}")}, {"m": read("{2 * 3}"), "t": read("{<a: 7, b: 'w>}")}, {}]
        for keeper in (self.keeper(), self.keeper(a="table n"), self.keeper(a=JOIN, b=NEST)):
            for change in BAD_CHANGES:
                for place in range(4):
                    self.refused(NoChange, keeper, "parcel", good[:place] + [change] + good[place:])
                self.refused(NoChange, keeper, "parcel", [change, change])

    def test_behind_refusals_all_goes_on(self):
        keeper = self.keeper(a=JOIN)
        for change in BAD_CHANGES:
            self.refused(NoChange, keeper, "change", change)
        self.refused(NoKeep, keeper, "keep", "a", read_question("table n"))
        keeper.change({"n": read("{5}")})
        self.assertEqual(shown(keeper.told("a")), "{2 * -3, 5}")


class TestOwn(KeeperTest):
    def test_what_was_handed_in(self):
        stock, store = dict(TABLES), dict(STORE)
        keeper = Keeper(stock, store)
        keeper.keep("a", read_question(JOIN))
        change, parcel = {"n": read("{5}")}, [{"n": read("{2}")}, {"m": read("{1}")}]
        keeper.change(change)
        keeper.parcel(parcel)
        self.assertEqual((stock, store, change), (TABLES, STORE, {"n": read("{5}")}))
        self.assertEqual(parcel, [{"n": read("{2}")}, {"m": read("{1}")}])
        stock.clear()
        store.clear()
        change["n"] = bag()
        parcel[0].clear()
        parcel.clear()
        self.assertEqual(shown(keeper.told("a")), "{1, 2 * -4, 5}")
        keeper.change({"t": read("{<a: 7, b: 'w>}")})
        stock["new"] = NUM
        self.refused(NoChange, keeper, "change", {"new": read("{1}")})

    def test_what_was_told(self):
        keeper = self.keeper(a=JOIN, b="table n")
        store, names, told = keeper.store(), keeper.names(), keeper.told("a")
        store.clear()
        names.clear()
        self.assertEqual((keeper.store(), keeper.names()), (STORE, ["a", "b"]))
        store, names = keeper.store(), keeper.names()
        keeper.change({"n": read("{5}")})
        keeper.throw("b")
        self.assertEqual((store, names, shown(told)), (STORE, ["a", "b"], "{2 * -3}"))

    def test_two_keepers_are_two(self):
        one, other = self.keeper(a="table n"), self.keeper(a="table n")
        one.change({"n": read("{8}")})
        one.keep("b", read_question("table m"))
        self.assertEqual((other.names(), other.told("a"), other.store()), (["a"], STORE["n"], STORE))


class TestRowsOfDeeds(unittest.TestCase):
    def test_drawn(self):
        offers = 0
        for place in range(20):
            found = [question for question, kind, store, change in drawn(120 + place, 6, most=50)]
            maker = Maker(place)
            store = maker.store(STOCK)
            keeper, kept = Keeper(STOCK, store), {}
            for turn in range(40):
                deed = maker.chance.choice(["keep", "offer", "offer", "throw", "change", "change", "parcel"])
                name = maker.chance.choice("abcdef")
                if deed == "keep" and name not in kept:
                    kept[name] = maker.chance.choice(found)
                    keeper.keep(name, kept[name])
                elif deed == "offer" and kept and name not in kept:
                    elder = maker.chance.choice(sorted(kept))
                    ways = [(path, rule) for path, knot in plain_paths(kept[elder]) for rule in SHORT + LONG
                            if plain_turned(kept[elder], path, rule) is not None]
                    chain = tuple(maker.chance.sample(ways, min(len(ways), 1)))
                    kept[name] = plain_turned(kept[elder], *chain[0]) if chain else kept[elder]
                    keeper.offer(name, elder, chain, kept[name])
                    offers += 1
                elif deed == "throw" and name in kept:
                    keeper.throw(name)
                    kept.pop(name)
                elif deed == "change":
                    change = maker.change(STOCK)
                    keeper.change(change)
                    store = changed(store, change)
                elif deed == "parcel":
                    changes = [maker.change(STOCK) for part in range(maker.chance.randrange(4))]
                    keeper.parcel(changes)
                    for change in changes:
                        store = changed(store, change)
                self.assertEqual((keeper.names(), keeper.store()), (sorted(kept), store))
                for name, question in kept.items():
                    self.assertTrue(has_form(keeper.told(name)))
                    self.assertEqual(keeper.told(name), plain_answer(question, {}, store), question_shown(question))
        self.assertGreater(offers, 60)
