import unittest

from keptnest.asks.questions import read_question
from keptnest.data.texts import read, shown
from keptnest.flat.branches import branches
from keptnest.plans.sums import sums, worth
from makers import NUM, PLAIN_STOCK, drawn
from plainly import plain_answer, plain_bag
from plainplans import BranchMaker, drawn_branches, plain_sums, plain_worth
from plainturns import branch_question
from samples import GREAT, bag, num, row, word

STORE = {"n": read("{1, 2 * 3, 4 * -1}"), "m": read("{2 * -1, 3 * 5}"), "e": bag(), "w": read("{'b, 'a * 2}"),
         "p": read("{<a: 1, b: 2>, <a: 1, b: 3> * -1, <a: 2, b: 2> * 4}")}


def tokens(*pairs):
    return tuple((table, num(value)) for table, value in pairs)


SUMS = (
    ("one num 7", {"7": (((), 1),)}), ("times -3 one num 7", {"7": (((), -3),)}),
    ("table n", {"1": ((tokens(("n", 1)), 1),), "2": ((tokens(("n", 2)), 1),), "4": ((tokens(("n", 4)), 1),)}),
    ("times -2 table m", {"2": ((tokens(("m", 2)), -2),), "3": ((tokens(("m", 3)), -2),)}),
    ("table e", {}), ("for x table n for y table e one num 1", {}), ("when same num 1 num 2 table n", {}),
    # Several rows that come to one; the pairs rise.
    ("for x table n one num 0", {"0": tuple((tokens(("n", k)), 1) for k in (1, 2, 4))}),
    ("for x table m for y table n when under num 1 var y one num 0", {
        "0": tuple((tokens(("m", j), ("n", k)), 1) for j in (2, 3) for k in (2, 4))}),
    # Tables in the order of their names, whichever is gone through first.
    ("for x table n for y table m when same var x var y one var x", {"2": ((tokens(("m", 2), ("n", 2)), 1),)}),
    # A row gone through twice, and two rows in either order.
    ("for x table n for y table n when same var x var y one num 0", {
        "0": tuple((tokens(("n", k), ("n", k)), 1) for k in (1, 2, 4))}),
    ("times 5 for x table n for y table n when under num 1 mul var x var y one num 0", {
        "0": ((tokens(("n", 1), ("n", 2)), 10), (tokens(("n", 1), ("n", 4)), 10), (tokens(("n", 2), ("n", 2)), 5),
              (tokens(("n", 2), ("n", 4)), 10), (tokens(("n", 4), ("n", 4)), 5))}),
    ("for x table n for y table n when under var x var y one add var x var y", {
        "3": ((tokens(("n", 1), ("n", 2)), 1),), "5": ((tokens(("n", 1), ("n", 4)), 1),),
        "6": ((tokens(("n", 2), ("n", 4)), 1),)}),
    # A count that comes to 0 is told all the same: 1 and -1 of p.
    ("for x table p when same at a var x num 1 one at a var x", {
        "1": (((("p", row(("a", num(1)), ("b", num(2)))),), 1), ((("p", row(("a", num(1)), ("b", num(3)))),), 1))}),
    ("for x table w one num 1", {"1": (((("w", word("a")),), 1), ((("w", word("b")),), 1))}),
    # Gens of one name.
    ("for x table m for x table n when same var x num 1 one var x", {
        "1": tuple((tokens(("m", k), ("n", 1)), 1) for k in (2, 3))}),
)


class TestSums(unittest.TestCase):
    def test_by_hand(self):
        for text, wanted in SUMS:
            branch, = branches(read_question(text))
            told = sums(branch, STORE)
            self.assertIsInstance(told, dict)
            self.assertEqual({shown(value): pairs for value, pairs in told.items()}, wanted, text)
            counts = dict(plain_answer(read_question(text), {}, STORE)[1])
            self.assertLessEqual(set(counts), set(told))
            for value, pairs in told.items():
                self.assertEqual(worth(pairs, STORE), counts.get(value, 0))

    def test_a_count_of_nought(self):
        branch, = branches(read_question("for x table p when same at a var x num 1 one at a var x"))
        told = sums(branch, STORE)
        self.assertEqual(plain_answer(branch_question(branch), {}, STORE), bag())
        self.assertEqual([worth(pairs, STORE) for pairs in told.values()], [0])
        self.assertEqual(worth(told[num(1)], {**STORE, "p": read("{<a: 1, b: 2> * 3, <a: 1, b: 3>}")}), 4)

    def test_drawn(self):
        maker, nought, twice = BranchMaker(111), 0, 0
        for branch, store in drawn_branches(112, 400):
            told = sums(branch, store)
            self.assertEqual(told, plain_sums(branch, store))
            for pairs in told.values():
                self.assertEqual(list(pairs), sorted(pairs))
                self.assertEqual(len({tokens_told for tokens_told, factor in pairs}), len(pairs))
                self.assertTrue(all(factor and list(some) == sorted(some) for some, factor in pairs))
                twice += any(len(set(some)) < len(some) for some, factor in pairs)
            for other in (store, self.recounted(store, maker), self.recounted(store, maker)):
                counts = dict(plain_answer(branch_question(branch), {}, other)[1])
                self.assertLessEqual(set(counts), set(told))
                for value, pairs in told.items():
                    self.assertEqual(worth(pairs, other), counts.get(value, 0))
                    nought += value not in counts
        self.assertGreater(nought, 50)
        self.assertGreater(twice, 50)

    def recounted(self, store, maker):
        """A store of the same rows with other counts, some of them 0."""
        return {table: plain_bag([(value, maker.chance.choice([-3, -1, 0, 0, 1, 2, GREAT])) for value,
                                  count in rows[1]])
                for table, rows in store.items()}

    def test_branches_of_drawn_questions(self):
        seen = 0
        for question, kind, store, change in drawn(113, 300, kinds=(NUM, PLAIN_STOCK["s"]), stock=PLAIN_STOCK):
            for branch in branches(question):
                told = sums(branch, store)
                self.assertEqual(told, plain_sums(branch, store))
                counts = dict(plain_answer(branch_question(branch), {}, store)[1])
                self.assertEqual({value: worth(pairs, store) for value, pairs in told.items() if worth(pairs, store)},
                                 counts)
                seen += len(told)
        self.assertGreater(seen, 200)

    def test_told_is_the_askers_own(self):
        branch, = branches(read_question("table n"))
        store = dict(STORE)
        told = sums(branch, store)
        wanted = dict(told)
        store.clear()
        self.assertEqual(told, wanted)
        told.clear()
        self.assertEqual(sums(branch, STORE), wanted)


class TestWorth(unittest.TestCase):
    def test_by_hand(self):
        one, two, four = (tokens(("n", k)) for k in (1, 2, 4))
        for pairs, wanted in (
            ((), 0), ((((), 5),), 5), ((((), 0),), 0), (((one, 1),), 1), (((two, 1),), 3), (((two, -2),), -6),
            (((two, 1), (one, 1)), 4), (((two, 2), (two, 5)), 21), (((two, 2), (one, 1), (two, -2)), 1),
            (((two + two, 1),), 9), (((four + two + one, 10),), -30), (((four + four + four, 1),), -1),
            (((tokens(("m", 3), ("n", 2)), 1),), 15), (((tokens(("n", 2), ("m", 3)), 1),), 15), (((one, 0),), 0),
            # What the store does not have counts 0.
            (((tokens(("n", 9)), 7),), 0), (((tokens(("n", 9), ("n", 2)), 7), (two, 1)), 3),
            (((tokens(("e", 1)), 1),), 0),
            ((((("n", word("a")),), 1),), 0), (((two, GREAT), (one, -GREAT)), 2 * GREAT),
            ((((("p", row(("a", num(2)), ("b", num(2)))), ("n", num(2))), 1),), 12),
        ):
            self.assertEqual(worth(pairs, STORE), wanted, pairs)

    def test_drawn(self):
        maker = BranchMaker(114)
        for turn in range(300):
            store = maker.store()
            pairs = tuple(
                (tuple((maker.chance.choice("pqr"), maker.value()) for row_told in range(maker.chance.randrange(4))),
                 maker.chance.randrange(-3, 4)) for pair in range(maker.chance.randrange(6)))
            pairs += pairs[:maker.chance.randrange(3)]
            self.assertEqual(worth(pairs, store), plain_worth(pairs, store))
