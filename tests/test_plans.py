import itertools
import unittest

from keptnest.asks.questions import read_question
from keptnest.data.texts import read, shown
from keptnest.errors import NoPlan
from keptnest.flat.branches import branches
from keptnest.plans.plans import best, by_plan, fits
from makers import PLAIN_STOCK, drawn
from plainly import plain_answer
from plainplans import BranchMaker, all_plans, drawn_branches, plain_by_plan, plain_fits
from plainturns import branch_question
from samples import GREAT, bag, num, row

STORE = {
    "p": read("{<a: 1, b: 'u, c: 0>, <a: 1, b: 'v, c: 1> * 2, <a: 2, b: 'u, c: 5> * -1}"),
    "q": read("{<a: 1, b: 'u, c: 7> * 3, <a: 2, b: 'u, c: 8>, <a: 3, b: 'v, c: 9>, <a: 4, b: 'v, c: 9>}"),
    "n": read("{1, 2 * 5}"), "e": bag(),
}
JOIN, = branches(read_question(
    "times 2 for x table p for y table q when and same at a var x at a var y under at c var x num 3 one at c var y"))
# Plans of JOIN that fit, with the rows that they look at, counted by hand.
OF_JOIN = {
    # p has three rows, q four; by a two rows of p find one of q each, and the third another one.
    (("go", 0), ("go", 1), ("ask", 0), ("ask", 1)): 3 + 12, (("go", 0), ("go", 1), ("ask", 1), ("ask", 0)): 3 + 12,
    (("go", 1), ("go", 0), ("ask", 0), ("ask", 1)): 4 + 12, (("go", 1), ("go", 0), ("ask", 1), ("ask", 0)): 4 + 12,
    # Asked ahead, two of p are left.
    (("go", 0), ("ask", 1), ("go", 1), ("ask", 0)): 3 + 8, (("go", 0), ("seek", 1, 0), ("ask", 1)): 3 + 3,
    (("go", 0), ("ask", 1), ("seek", 1, 0)): 3 + 2, (("go", 1), ("seek", 0, 0), ("ask", 1)): 4 + 3,
}
NO_STEPS = (
    ("go",), ("ask",), ("seek",), ("seek", 0), ("seek", 1), ("go", 0, 0), ("go", 0, 1), ("ask", 0, 0),
    ("seek", 1, 0, 0),
    ("go", -1), ("go", 2), ("go", GREAT), ("go", -2), ("ask", -1), ("ask", 2), ("ask", -2), ("ask", GREAT),
    ("seek", -1, 0), ("seek", 1, -1), ("seek", 2, 0), ("seek", 1, 2), ("seek", -2, -2), ("seek", GREAT, 0), ("",),
    ("x", 0),
    ("Go", 0), ("go ", 0), ("goes", 0), ("through", 0), ("go", "0"), ("ask", "x"), ("seek", "1", 0), ("seek", 1, "0"),
    ("go", ""), ("ask", ""), ("seek", 0, "a"), ("go", "a", "b"), ("for", 0), ("when", 0), ("ask", "0"), ("x",),
    ("seek", 1, 1),
    ("seek", 0, 1),
)


class TestFits(unittest.TestCase):
    def test_by_hand(self):
        for plan in OF_JOIN:
            self.assertIs(fits(JOIN, plan), True, plan)
        self.assertEqual(sorted(OF_JOIN), sorted(all_plans(JOIN)))

    def test_every_row_of_steps(self):
        steps = [("go", 0), ("go", 1), ("ask", 0), ("ask", 1), ("seek", 0, 0), ("seek", 1, 0), ("seek", 0, 1),
                 ("seek", 1, 1)]
        for many in range(6):
            for plan in itertools.product(steps, repeat=many):
                self.assertIs(fits(JOIN, plan), plan in OF_JOIN, plan)

    def test_left_out_or_twice(self):
        for plan in OF_JOIN:
            for place, step in enumerate(plan):
                self.assertIs(fits(JOIN, plan[:place] + plan[place + 1:]), False)
                for other in range(len(plan) + 1):
                    self.assertIs(fits(JOIN, plan[:other] + (step,) + plan[other:]), False)
                    self.assertIs(fits(JOIN, plan[:other] + (("go", 0),) + plan[other:]), False)
                    self.assertIs(fits(JOIN, plan[:other] + (("ask", 1),) + plan[other:]), False)

    def test_what_is_no_step(self):
        for step in NO_STEPS:
            self.assertIs(fits(JOIN, (step,)), False)
            for plan in OF_JOIN:
                for place in range(len(plan)):
                    self.assertIs(fits(JOIN, plan[:place] + (step,) + plan[place:]), False, step)
                    self.assertIs(fits(JOIN, plan[:place] + (step,) + plan[place + 1:]), False, step)
        self.assertIs(fits(JOIN, ()), False)

    def test_without_gens_or_claims(self):
        nothing, = branches(read_question("one num 1"))
        self.assertIs(fits(nothing, ()), True)
        for step in (("go", 0), ("ask", 0), ("seek", 0, 0)):
            self.assertIs(fits(nothing, (step,)), False)
        asked, = branches(read_question("when same num 1 num 2 one num 1"))
        self.assertIs(fits(asked, (("ask", 0),)), True)
        self.assertIs(fits(asked, ()), False)
        gone, = branches(read_question("for x table n when same num 1 num 1 one num 1"))
        for plan in ((("ask", 0), ("go", 0)), (("go", 0), ("ask", 0))):
            self.assertIs(fits(gone, plan), True)
        self.assertIs(fits(gone, (("seek", 0, 0),)), False)

    def test_sought_by_what_is_no_same_of_at_of_that_variable(self):
        for claim, so in (
            ("same at a var x num 1", True), ("same num 1 at a var x", True), ("same at a var x at a var x", False),
            ("same at a var x at c var x", False), ("same at b var x word u", True), ("same word u at b var x", True),
            ("under at a var x num 1", False), ("not same at a var x num 1", False), ("same num 1 num 1", False),
            ("or same at a var x num 1 same at a var x num 1", False), ("same add at a var x num 1 num 1", False),
            ("same num 1 mul num 1 at a var x", False), ("same at a at z var x num 1", False),
            ("same at a at x var x num 1", False), ("same num 1 at a at x var x", False),
            ("same at a var x add num 1 num 2", True), ("same at a var x add num 1 at c var x", False),
        ):
            branch, = branches(read_question(f"for x table p when {claim} one num 1"))
            self.assertIs(fits(branch, (("seek", 0, 0),)), so, claim)
            self.assertIs(fits(branch, (("go", 0), ("ask", 0))), True)
        for claim, of_x, of_y in (
            ("same at a var x at a var y", True, True), ("same at c var y at a var x", True, True),
            ("same at a var x add at a var y num 1", True, False),
            ("same add at a var x num 1 at a var y", False, True),
            ("same at a var x add at a var y at a var x", False, False), ("same at a var x num 1", True, False),
        ):
            branch, = branches(read_question(f"for x table p for y table q when {claim} one num 1"))
            self.assertIs(fits(branch, (("go", 1), ("seek", 0, 0))), of_x, claim)
            self.assertIs(fits(branch, (("go", 0), ("seek", 1, 0))), of_y, claim)
            self.assertIs(fits(branch, (("seek", 0, 0), ("go", 1))), claim == "same at a var x num 1")
            self.assertIs(fits(branch, (("seek", 1, 0), ("go", 0))), False)
        branch, = branches(read_question("for x table n when same var x num 1 one num 1"))
        self.assertIs(fits(branch, (("seek", 0, 0),)), False)

    def test_what_no_gen_has_is_never_gone_through(self):
        claim = ("same", ("at", "a", ("var", "x")), ("at", "a", ("var", "z")))
        branch = (1, (("x", "p"), ("y", "p")), (claim,), num(1))
        for plan in itertools.permutations([("go", 0), ("go", 1), ("ask", 0)]):
            self.assertIs(fits(branch, plan), False)
        self.assertIs(fits(branch, (("go", 1), ("seek", 0, 0))), False)

    def test_gens_of_one_name(self):
        branch, = branches(read_question("for x table p for x table q when same at a var x num 1 one at a var x"))
        for plan, so in (
            ((("go", 0), ("go", 1), ("ask", 0)), True), ((("go", 1), ("go", 0), ("ask", 0)), True),
            ((("go", 1), ("ask", 0), ("go", 0)), True), ((("go", 0), ("ask", 0), ("go", 1)), False),
            ((("go", 0), ("seek", 1, 0)), True), ((("seek", 1, 0), ("go", 0)), True),
            ((("go", 1), ("seek", 0, 0)), False), ((("seek", 0, 0), ("go", 1)), False),
        ):
            self.assertIs(fits(branch, plan), so, plan)

    def test_drawn_rows_of_steps(self):
        seen = {True: 0, False: 0}
        for branch, store in drawn_branches(101, 300):
            maker = BranchMaker(seen[True])
            gens, claims = len(branch[1]), len(branch[2])
            steps = [("go", i) for i in range(gens + 1)] + [("ask", j) for j in range(claims + 1)]
            steps += [("seek", i, j) for i in range(gens) for j in range(claims)]
            for turn in range(30):
                whole = maker.chance.sample(steps, min(len(steps), gens + claims))
                for many in range(len(whole) + 1):
                    plan = tuple(whole[:many])
                    self.assertIs(fits(branch, plan), plain_fits(branch, plan), (branch, plan))
                    seen[plain_fits(branch, plan)] += 1
            for plan in all_plans(branch)[:20]:
                self.assertIs(fits(branch, plan), True)
        self.assertGreater(seen[True], 200)


class TestByPlan(unittest.TestCase):
    def test_by_hand(self):
        for plan, looked in OF_JOIN.items():
            told = by_plan(JOIN, plan, STORE)
            self.assertIsInstance(told, tuple)
            self.assertEqual((shown(told[0]), told[1]), ("{7 * 18}", looked), plan)

    def test_rows_looked_at_whatever_their_count(self):
        for text, plan, wanted, looked in (
            ("one num 1", (), "{1}", 0), ("times -3 one num 1", (), "{1 * -3}", 0),
            ("table n", (("go", 0),), "{1, 2 * 5}", 2), ("table e", (("go", 0),), "{}", 0),
            ("when same num 1 num 2 table n", (("go", 0), ("ask", 0)), "{}", 2),
            ("when same num 1 num 2 table n", (("ask", 0), ("go", 0)), "{}", 0),
            ("for x table n for y table n one add var x var y", (("go", 0), ("go", 1)), "{2, 3 * 10, 4 * 25}", 6),
            ("for x table n for y table e one var x", (("go", 0), ("go", 1)), "{}", 2),
            ("for x table n for y table e one var x", (("go", 1), ("go", 0)), "{}", 0),
            ("for x table p when same at b var x word u one num 1", (("seek", 0, 0),), "{}", 2),
            ("for x table p when same at b var x word v one num 1", (("seek", 0, 0),), "{1 * 2}", 1),
            ("for x table p when same at b var x word w one num 1", (("seek", 0, 0),), "{}", 0),
            ("for x table q when same at c var x num 9 one at b var x", (("seek", 0, 0),), "{'v * 2}", 2),
            ("for x table n for y table q when same at a var y add var x num 2 one at c var y",
             (("go", 0), ("seek", 1, 0)), "{9 * 6}", 4),
            ("for x table n for x table q when same at c var x num 9 one at a var x", (("seek", 1, 0), ("go", 0)),
             "{3 * 6, 4 * 6}", 6),
            ("for x table q for x table n one var x", (("go", 1), ("go", 0)), "{1 * 6, 2 * 30}", 10),
        ):
            branch, = branches(read_question(text))
            told, many = by_plan(branch, plan, STORE)
            self.assertEqual((shown(told), many), (wanted, looked), text)
            self.assertEqual(told, plain_answer(read_question(text), {}, STORE))

    def test_a_row_with_bags_in_it(self):
        text = "for x table n one row 2 k var x of for y table n when under var y var x one var y"
        branch, = branches(read_question(text))
        self.assertEqual(by_plan(branch, (("go", 0),), STORE), (plain_answer(read_question(text), {}, STORE), 2))

    def test_a_plan_that_does_not_fit(self):
        for plan in ((), (("go", 0),), (("go", 0), ("go", 1)), (("ask", 0), ("go", 0), ("go", 1), ("ask", 1)),
                     (("go", 0), ("seek", 1, 1), ("ask", 0)),
                     (("go", 0), ("go", 0), ("go", 1), ("ask", 0), ("ask", 1))):
            with self.assertRaises(NoPlan) as caught:
                by_plan(JOIN, plan, STORE)
            self.assertIs(type(caught.exception), NoPlan)
        for step in NO_STEPS:
            for plan in ((step,), (("go", 0), ("go", 1), ("ask", 0), step), (step, ("go", 0), ("go", 1), ("ask", 0))):
                with self.assertRaises(NoPlan) as caught:
                    by_plan(JOIN, plan, STORE)
                self.assertIs(type(caught.exception), NoPlan)

    def test_drawn(self):
        plans = 0
        for branch, store in drawn_branches(102, 150):
            kept = dict(store)
            wanted = plain_answer(branch_question(branch), {}, store)
            for plan in all_plans(branch)[:60]:
                told = by_plan(branch, plan, store)
                self.assertEqual(told, plain_by_plan(branch, plan, store))
                self.assertEqual(told[0], wanted)
                plans += 1
            self.assertEqual(store, kept)
        self.assertGreater(plans, 1000)

    def test_branches_of_drawn_questions(self):
        for question, kind, store, change in drawn(103, 200, most=60, stock=PLAIN_STOCK):
            for branch in branches(question):
                if len(branch[1]) <= 3 and len(branch[2]) <= 3:
                    for plan in all_plans(branch)[:8]:
                        self.assertEqual(by_plan(branch, plan, store)[0],
                                         plain_answer(branch_question(branch), {}, store))


class TestBest(unittest.TestCase):
    def test_by_hand(self):
        self.assertEqual(best(JOIN, STORE), (("go", 0), ("ask", 1), ("seek", 1, 0)))
        for text, plan in (
            ("one num 1", ()), ("table n", (("go", 0),)), ("when same num 1 num 1 one num 1", (("ask", 0),)),
            ("when and same num 1 num 1 same num 2 num 2 one num 1", (("ask", 0), ("ask", 1))),
            ("when same num 1 num 2 for x table n one num 1", (("ask", 0), ("go", 0))),
            # Of several the first: go ahead of seek, lesser numbers ahead.
            ("for x table n for y table n one num 1", (("go", 0), ("go", 1))),
            ("for x table n for y table e one num 1", (("go", 1), ("go", 0))),
            ("for x table e for y table e when same at a var x num 1 one num 1", (("go", 0), ("ask", 0), ("go", 1))),
            ("for x table p when same at b var x word u one num 1", (("seek", 0, 0),)),
            ("for x table p for y table p when same at a var x at a var y one num 1", (("go", 0), ("seek", 1, 0))),
            ("for x table q for y table p when same at a var x at a var y one num 1", (("go", 1), ("seek", 0, 0))),
            ("for x table p for y table q for z table e when same at a var x at a var y one num 1",
             (("go", 2), ("go", 0), ("go", 1), ("ask", 0))),
        ):
            branch, = branches(read_question(text))
            self.assertEqual(best(branch, STORE), plan, text)

    def held_against_all(self, branch, store):
        plans = all_plans(branch)
        few = min((plain_by_plan(branch, plan, store)[1], plan) for plan in plans)
        told = best(branch, store)
        self.assertIs(fits(branch, told), True)
        self.assertEqual((by_plan(branch, told, store)[1], told), few, branch)

    def test_against_all_plans(self):
        for branch, store in drawn_branches(104, 300):
            self.held_against_all(branch, store)

    def test_against_all_plans_of_four_gens(self):
        maker = BranchMaker(105)
        for turn in range(12):
            self.held_against_all(maker.branch(4, maker.chance.randrange(3)), maker.store(3))

    def test_against_all_plans_of_more_claims(self):
        maker = BranchMaker(106)
        for turn in range(12):
            self.held_against_all(maker.branch(2, 4), maker.store(3))

    def test_great_ones(self):
        # Four gens and six claims, and tables of many rows that no claim links: told soon, and no worse than others.
        rows = tuple((row(("a", num(k)), ("c", num(k % 7))), 1 - 2 * (k % 2)) for k in range(66))
        store = {"p": ("bag", rows), "q": ("bag", rows[:30])}
        apart, = branches(read_question("for x table p for y table p for z table p for w table p one num 1"))
        self.assertEqual(best(apart, store), (("go", 0), ("go", 1), ("go", 2), ("go", 3)))
        star, = branches(read_question(
            "for x table p for y table p for z table p for w table q when and and and same at a var x at a var w "
            "same at a var y at a var w same at a var z at a var w and and under at a var x num 5 "
            "under at c var x num 3 not same at c var w num 2 one at a var w"))
        plan = best(star, store)
        self.assertIs(fits(star, plan), True)
        # w's 30 rows, of which 26 are left by the last claim; one of x for each, of which 3 are left; and so on.
        self.assertEqual(by_plan(star, plan, store)[1], 30 + 26 + 2 + 2)
