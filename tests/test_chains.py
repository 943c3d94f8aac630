import unittest

from keptnest.asks.answers import answer
from keptnest.asks.kinds import kind_of
from keptnest.asks.questions import question_shown, read_question
from keptnest.errors import NoTurning
from keptnest.turns.rules import led, turned
from makers import STOCK, Maker, drawn, drawn_open
from plainly import plain_answer
from plainturns import LONG, SHORT, plain_paths, plain_texts, plain_turned
from samples import TAKEN_WORDS, is_name


class TestChains(unittest.TestCase):
    START = "for y for x both table n times 2 times 3 table m one var x one add var y num 1"
    CHAIN = (
        ((), "forfor"), ((1,), "forone"), ((1,), "letin"), ((), "forboth"), ((1, 0), "timestimes"), ((1,), "fortimes"),
        ((), "swapboth"),
    )
    LED = (
        "for x both table n times 2 times 3 table m for y one var x one add var y num 1",
        "for x both table n times 2 times 3 table m let y var x one add var y num 1",
        "for x both table n times 2 times 3 table m one add var x num 1",
        "both for x table n one add var x num 1 for x times 2 times 3 table m one add var x num 1",
        "both for x table n one add var x num 1 for x times 6 table m one add var x num 1",
        "both for x table n one add var x num 1 times 6 for x table m one add var x num 1",
        "both times 6 for x table m one add var x num 1 for x table n one add var x num 1",
    )

    def refused(self, question, chain):
        with self.assertRaises(NoTurning) as caught:
            led(question, chain)
        self.assertIs(type(caught.exception), NoTurning)

    def test_of_none_one_and_several(self):
        question = read_question(self.START)
        self.assertEqual(led(question, ()), question)
        for many, wanted in enumerate(self.LED, 1):
            self.assertEqual(question_shown(led(question, self.CHAIN[:many])), wanted)
        for path, rule in self.CHAIN[:1]:
            self.assertEqual(led(question, ((path, rule),)), turned(question, path, rule))

    def test_a_step_amid_that_does_not_fit(self):
        question = read_question(self.START)
        for place in range(len(self.CHAIN) + 1):
            for step in (((), "timesone"), ((9,), "letin"), ((0, -1), "swapboth"), ((), "no"), ((5, 5), "forfor")):
                self.refused(question, self.CHAIN[:place] + (step,) + self.CHAIN[place:])
        for place in (0, 1, 3):
            self.refused(question, self.CHAIN[:place] + self.CHAIN[place + 1:])
        self.refused(question, self.CHAIN[::-1])

    def test_names_of_each_step_are_those_of_the_question_there(self):
        # The name that the first step gives is taken for the second, and the one that the first drops is not.
        question = read_question("both let z word a num 1 when same num 1 var x when same num 2 var x "
                                 "for x table n one var x")
        told = led(question, (((0,), "letin"), ((1, 1), "whenfor"), ((1,), "whenfor")))
        self.assertEqual(question_shown(told),
                         "both num 1 for a table n when same num 1 var x when same num 2 var x one var a")
        question = read_question("both when same num 1 var x for x table n one var x "
                                 "when same num 1 var x for x table m one var x")
        told = led(question, (((0,), "whenfor"), ((1,), "whenfor")))
        self.assertEqual(question_shown(told), "both for a table n when same num 1 var x one var a "
                                               "for b table m when same num 1 var x one var b")

    def test_names_at_each_depth_are_taken(self):
        ahead = "both table b both table a both table c times 2 "
        told = turned(read_question(ahead + "when same num 1 var x for x table n one var x"), (1, 1, 1, 0), "whenfor")
        self.assertEqual(question_shown(told), ahead + "for d table n when same num 1 var x one var d")
        # The first step's new name stands at the very place of the second.
        question = read_question("times 2 let x var y for y var z for z table m one add var x var y")
        told = led(question, (((0,), "letin"), ((0,), "swapfor")))
        self.assertEqual(question_shown(told), "times 2 for b table m for a var z one add var y var a")

    def test_swapped_there_and_back(self):
        question = read_question("both table o for x table n for x table m one num 1")
        there = (((1,), "swapfor"),)
        self.assertEqual(question_shown(led(question, there)), "both table o for x table m for a table n one num 1")
        self.assertEqual(question_shown(led(question, there + there)),
                         "both table o for a table n for x table m one num 1")

    def test_drawn_rows_of_turnings(self):
        steps = 0
        for place, (question, kind, kinds, values, store) in enumerate(drawn_open(74, 250)):
            maker, chain, told = Maker(place), [], question
            ahead = plain_answer(question, values, store)
            for turn in range(8):
                ways = [(path, rule) for path, knot in plain_paths(told) for rule in SHORT + LONG
                        if plain_turned(told, path, rule) is not None]
                if ways:
                    chain.append(maker.chance.choice(ways))
                    told = plain_turned(told, *chain[-1])
            self.assertEqual(led(question, tuple(chain)), told)
            self.assertEqual(kind_of(told, kinds, STOCK), kind)
            self.assertEqual(answer(told, values, store), ahead)
            steps += len(chain)
            self.assertTrue(all(is_name(text) or text in TAKEN_WORDS for text in plain_texts(told)))
        self.assertGreater(steps, 800)

    def test_without_free_variables_in_many_stores(self):
        for question, kind, store, change in drawn(75, 60):
            maker = Maker(75)
            for path, knot in plain_paths(question):
                for rule in SHORT + LONG:
                    if plain_turned(question, path, rule) is not None:
                        told, other = led(question, ((path, rule),)), maker.store(STOCK)
                        self.assertEqual(answer(told, {}, other), plain_answer(question, {}, other))

    def test_nothing_handed_in_is_changed(self):
        question, chain = read_question(self.START), list(self.CHAIN)
        kept = question_shown(question)
        led(question, chain)
        self.assertEqual((question_shown(question), chain), (kept, list(self.CHAIN)))

    def test_a_long_chain_of_great_depth(self):
        whole, many = ("table", "n"), 400
        for turn in range(many):
            whole = ("both", whole, ("table", "n"))
        chain = (((), "groupboth"),) * (many - 1)
        told = led(whole, chain)
        self.assertEqual(question_shown(told), "both table n " * many + "table n")
        back = led(told, tuple((((1,) * place), "swapboth") for place in range(many - 1, -1, -1)))
        self.assertEqual(question_shown(back), "both " * many + "table n" + " table n" * many)
