import unittest

from keptnest.asks.answers import answer
from keptnest.asks.questions import question_shown
from keptnest.changes.degrees import degree, differences, is_even
from keptnest.changes.differences import changed
from keptnest.changes.keeper import Keeper
from keptnest.changes.views import View
from keptnest.data.kinds import kind_shown
from keptnest.data.texts import read, shown
from keptnest.flat.branches import branches
from keptnest.flat.stitch import flat, stitched
from keptnest.plans.plans import best, by_plan, fits
from keptnest.plans.sums import sums, worth
from keptnest.turns.rules import led
from keptnest.turns.shorter import shortened
from keptnest.whole import Desk
from makers import NUM, PLAIN_STOCK, WORD, Maker, bag_kind, drawn, row_of
from plainly import plain_answer, plain_bag
from plainplans import all_plans
from samples import bag

KINDS = (NUM, WORD, PLAIN_STOCK["s"], row_of(("k", NUM), ("of", bag_kind(NUM))), bag_kind(WORD),
         row_of(("a", bag_kind(PLAIN_STOCK["s"])), ("in", row_of(("of", bag_kind(bag_kind(NUM)))))))


class Ways:
    """One question, answered in every way that there is, behind each change."""

    def __init__(self, question, store):
        self.question, self.short, self.parts = question, shortened(question), flat(question)
        self.view = View(question, PLAIN_STOCK, store)
        self.short_view = View(self.short[0], PLAIN_STOCK, store)
        self.keeper = Keeper(PLAIN_STOCK, store)
        self.keeper.keep("asked", question)
        self.keeper.offer("led", "asked", self.short[1], self.short[0])
        self.part_views = {address: View(part, PLAIN_STOCK, store) for address, part in self.parts}
        self.branches = branches(question)
        self.desk = Desk()
        for name, kind in PLAIN_STOCK.items():
            self.desk.ask(f"table {name} {kind_shown(bag_kind(kind))}")
            self.desk.ask(f"change {name} {shown(store[name])}")
        self.desk.ask("keep asked " + question_shown(question))

    def change(self, parcel):
        for change in parcel:
            for view in [self.view, self.short_view, *self.part_views.values()]:
                view.change(change)
            for name, rows in change.items():
                self.desk.ask(f"change {name} {shown(rows)}")
        self.keeper.parcel(parcel)

    def answers(self, store):
        yield self.view.answer()
        yield self.short_view.answer()
        yield self.keeper.told("asked")
        yield self.keeper.told("led")
        yield answer(self.short[0], {}, store)
        yield answer(led(self.question, self.short[1]), {}, store)
        yield read(self.desk.ask("kept asked")[0])
        yield read(self.desk.ask("ask " + question_shown(self.question))[0])
        yield stitched(self.question, {address: view.answer() for address, view in self.part_views.items()})
        yield plain_bag([pair for branch in self.branches for pair in by_plan(branch, best(branch, store),
                                                                              store)[0][1]])

    def by_every_plan(self, store):
        """Lists of bags, one for each branch, that are all to be alike."""
        for branch in self.branches:
            if len(branch[1]) <= 3 and len(branch[2]) <= 2:
                yield [by_plan(branch, plan, store)[0] for plan in all_plans(branch)[:12]]

    def by_sums(self, store):
        counts = []
        for branch in self.branches:
            counts += [(value, worth(pairs, store)) for value, pairs in sums(branch, store).items()]
        return plain_bag(counts)


class TestWhole(unittest.TestCase):
    def test_every_way_tells_the_same(self):
        nested, plans, seen = 0, 0, 0
        for place, (question, kind, store, change) in enumerate(drawn(141, 150, kinds=KINDS, most=70,
                                                                      stock=PLAIN_STOCK)):
            maker, ways = Maker(place), Ways(question, store)
            flat_rows = kind[1] in (NUM, WORD, PLAIN_STOCK["s"])
            for turn in range(4):
                wanted = plain_answer(question, {}, store)
                for told in ways.answers(store):
                    self.assertEqual(told, wanted, question_shown(question))
                for bags in ways.by_every_plan(store):
                    self.assertEqual([rows for rows in bags if rows != bags[0]], [])
                    plans += len(bags)
                if flat_rows:
                    self.assertEqual(ways.by_sums(store), wanted)
                parcel = [maker.change(PLAIN_STOCK) for part in range(maker.chance.randrange(3))]
                ways.change(parcel)
                for change in parcel:
                    store = changed(store, change)
                seen += wanted != bag()
                nested += len(ways.parts) > len(ways.branches)
        self.assertGreater(seen, 200)
        self.assertGreater(plans, 200)
        self.assertGreater(nested, 100)

    def test_behind_as_many_differences_as_the_degree_and_one_there_is_none(self):
        even = 0
        for question, kind, store, change in drawn(142, 200, kinds=KINDS, most=50, stock=PLAIN_STOCK):
            told = shortened(question)[0]
            for asked in [question, told] + [part for address, part in flat(question)]:
                names = sorted(PLAIN_STOCK)
                if is_even(asked) and degree(asked, names) <= 3:
                    many = degree(asked, names)
                    rows = [{name: name + "abcdefgh"[place] for name in names} for place in range(many + 1)]
                    self.assertLessEqual(len(differences(asked, rows, {}, PLAIN_STOCK)), many + 1)
                    even += many > 0
        self.assertGreater(even, 50)

    def test_the_best_plan_fits_each_branch(self):
        for question, kind, store, change in drawn(143, 100, kinds=KINDS, most=70, stock=PLAIN_STOCK):
            for branch in branches(question):
                if len(branch[1]) <= 4 and len(branch[2]) <= 6:
                    self.assertIs(fits(branch, best(branch, store)), True)
