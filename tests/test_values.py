import itertools
import unittest

from keptnest.data.values import added, ahead, bag_of, times
from samples import GREAT, RISING, bag, compared, has_form, in_bag, in_row, nested, num, row, word

EMPTY = bag()


class TestOrder(unittest.TestCase):
    def test_samples_are_values_and_rise_as_the_document_tells(self):
        for value in RISING:
            self.assertTrue(has_form(value), value)
        for one, other in itertools.combinations(RISING, 2):
            self.assertEqual(compared(one, other), -1, (one, other))

    def test_every_two_both_ways(self):
        for here, one in enumerate(RISING):
            for there, other in enumerate(RISING):
                self.assertIs(ahead(one, other), here < there, (one, other))

    def test_sorts_of_values(self):
        sorts = (num(GREAT), word("a"), row(), bag())
        for here, one in enumerate(sorts):
            for there, other in enumerate(sorts):
                self.assertIs(ahead(one, other), here < there, (one, other))

    def test_never_of_a_value_and_itself(self):
        for value in RISING:
            again = eval(repr(value))
            self.assertIs(ahead(value, again), False, value)
            self.assertIs(ahead(again, value), False, value)

    def test_numbers_by_size_not_by_figures(self):
        self.assertIs(ahead(num(9), num(10)), True)
        self.assertIs(ahead(num(-9), num(-10)), False)
        self.assertIs(ahead(num(GREAT), num(GREAT + 1)), True)
        self.assertIs(ahead(num(GREAT + 1), num(GREAT)), False)
        self.assertIs(ahead(num(-GREAT - 1), num(-GREAT)), True)

    def test_words_by_letters_not_by_length(self):
        self.assertIs(ahead(word("abcdefgh"), word("b")), True)
        self.assertIs(ahead(word("b"), word("abcdefgh")), False)
        self.assertIs(ahead(word("ab"), word("abc")), True)

    def test_rows_field_ahead_of_value_ahead_of_later_pairs(self):
        self.assertIs(ahead(row(("a", num(9))), row(("b", num(1)))), True)
        self.assertIs(ahead(row(("a", num(1)), ("z", num(1))), row(("a", num(2)))), True)
        self.assertIs(ahead(row(("a", num(1)), ("b", num(9))), row(("a", num(1)), ("c", num(1)))), True)
        self.assertIs(ahead(row(("a", num(2))), row(("a", num(1)), ("b", num(1)))), False)

    def test_bags_value_ahead_of_count_ahead_of_later_pairs(self):
        self.assertIs(ahead(bag((num(1), 9)), bag((num(2), 1))), True)
        self.assertIs(ahead(bag((num(1), -2)), bag((num(1), -1))), True)
        self.assertIs(ahead(bag((num(1), 1), (num(9), 1)), bag((num(1), 2))), True)
        self.assertIs(ahead(bag((num(1), 2)), bag((num(1), 1), (num(2), 1))), False)

    def test_one_that_ends_is_ahead_also_within_others(self):
        for wrap in (in_bag, in_row, lambda value: row(("a", value), ("b", num(0)))):
            self.assertIs(ahead(wrap(row()), wrap(row(("a", num(-1))))), True)
            self.assertIs(ahead(wrap(bag()), wrap(bag((num(-1), -1)))), True)
            self.assertIs(ahead(wrap(row(("a", num(-1)))), wrap(row())), False)
            self.assertIs(ahead(wrap(bag((num(-1), -1))), wrap(bag())), False)

    def test_values_that_differ_only_far_within(self):
        for wrap in (in_bag, in_row):
            for low, high in ((num(1), num(2)), (num(5), word("a")), (row(), bag()), (bag(), bag((num(0), 1)))):
                for depth in (2, 11, 200):
                    one, other = nested(depth, wrap, low), nested(depth, wrap, high)
                    self.assertIs(ahead(one, other), True)
                    self.assertIs(ahead(other, one), False)
                    self.assertIs(ahead(one, one), False)


class TestBagOf(unittest.TestCase):
    def test_any_order(self):
        pairs = [(num(3), 1), (bag(), 2), (word("a"), -1), (num(-2), 4), (row(), 1)]
        wanted = bag((num(-2), 4), (num(3), 1), (word("a"), -1), (row(), 1), (bag(), 2))
        for order in itertools.permutations(pairs):
            self.assertEqual(bag_of(list(order)), wanted)

    def test_all_samples_backwards(self):
        wanted = ("bag", tuple((value, place + 1) for place, value in enumerate(RISING)))
        self.assertEqual(bag_of(list(reversed(wanted[1]))), wanted)
        self.assertTrue(has_form(wanted))

    def test_like_values_come_together(self):
        self.assertEqual(bag_of([(num(1), 2), (num(0), 1), (num(1), 3), (num(1), -1)]), bag((num(0), 1), (num(1), 4)))
        part = row(("a", bag((num(1), -2))))
        again = eval(repr(part))
        self.assertEqual(bag_of([(part, GREAT), (again, GREAT)]), bag((part, 2 * GREAT)))

    def test_unlike_values_stay_apart(self):
        pairs = ((bag((num(1), 1)), 1), (bag((num(1), 2)), 1))
        self.assertEqual(bag_of(list(pairs)), bag(*pairs))

    def test_counts_nought_go(self):
        self.assertEqual(bag_of([(num(1), 0)]), EMPTY)
        self.assertEqual(bag_of([(num(1), 0), (num(2), 1), (num(0), 0)]), bag((num(2), 1)))
        self.assertEqual(bag_of([(num(1), 0), (num(1), 5)]), bag((num(1), 5)))

    def test_counts_that_come_to_nought_go(self):
        self.assertEqual(bag_of([(num(1), 2), (num(1), -2)]), EMPTY)
        self.assertEqual(bag_of([(num(1), 2), (num(2), 1), (num(1), -1), (num(1), -1)]), bag((num(2), 1)))
        self.assertEqual(bag_of([(num(1), 2), (num(1), -2), (num(1), 7)]), bag((num(1), 7)))

    def test_counts_below_nought_stay(self):
        self.assertEqual(bag_of([(num(1), -2), (num(0), -1)]), bag((num(0), -1), (num(1), -2)))

    def test_none(self):
        self.assertEqual(bag_of([]), EMPTY)

    def test_told_is_of_tuples_as_the_document_tells(self):
        pairs = [(value, count) for count in (0, 2, -1, -2) for value in RISING]
        for told in (bag_of(pairs), bag_of(pairs[: len(RISING) * 3]), bag_of([])):
            self.assertTrue(has_form(told), told)
            self.assertEqual(hash(told), hash(eval(repr(told))))

    def test_list_handed_in_stays_and_is_not_kept(self):
        pairs = [(num(2), 1), (num(1), 0), (num(2), 1), (num(1), 3)]
        before = list(pairs)
        told = bag_of(pairs)
        self.assertEqual(pairs, before)
        pairs.clear()
        self.assertEqual(told, bag((num(1), 3), (num(2), 2)))
        self.assertEqual(bag_of(before), told)


class TestSums(unittest.TestCase):
    def bags(self):
        return [value for value in RISING if value[0] == "bag"] + [bag((num(0), -1)), bag((num(1), GREAT))]

    def counts(self, told):
        return dict(told[1])

    def test_added(self):
        one = bag((num(1), 2), (num(3), -1), (word("a"), 1))
        other = bag((num(0), 1), (num(1), 5), (num(3), 1), (row(), -2))
        wanted = bag((num(0), 1), (num(1), 7), (word("a"), 1), (row(), -2))
        self.assertEqual(added(one, other), wanted)
        self.assertEqual(added(other, one), wanted)

    def test_added_every_two(self):
        for one in self.bags():
            for other in self.bags():
                told = added(one, other)
                self.assertTrue(has_form(told), told)
                left, right = self.counts(one), self.counts(other)
                wanted = {value: left.get(value, 0) + right.get(value, 0) for value in {**left, **right}}
                self.assertEqual(self.counts(told), {value: count for value, count in wanted.items() if count})

    def test_added_empty(self):
        for one in self.bags():
            self.assertEqual(added(one, EMPTY), one)
            self.assertEqual(added(EMPTY, one), one)
        self.assertEqual(added(EMPTY, EMPTY), EMPTY)

    def test_added_to_what_is_less_by_it(self):
        for one in self.bags():
            self.assertEqual(added(one, times(one, -1)), EMPTY)
            self.assertEqual(added(times(one, 3), times(one, -2)), one)

    def test_like_values_within_are_not_added(self):
        one, other = bag((bag((num(1), 1)), 1)), bag((bag((num(1), 1)), 1))
        self.assertEqual(added(one, other), bag((bag((num(1), 1)), 2)))

    def test_times(self):
        one = bag((num(1), 2), (bag((num(1), 5)), -3))
        self.assertEqual(times(one, 4), bag((num(1), 8), (bag((num(1), 5)), -12)))
        self.assertEqual(times(one, -2), bag((num(1), -4), (bag((num(1), 5)), 6)))
        self.assertEqual(times(one, GREAT), bag((num(1), 2 * GREAT), (bag((num(1), 5)), -3 * GREAT)))

    def test_times_nought_one_and_less(self):
        for one in self.bags():
            self.assertEqual(times(one, 0), EMPTY)
            self.assertEqual(times(one, 1), one)
            self.assertEqual(times(one, -1), ("bag", tuple((value, -count) for value, count in one[1])))
            self.assertEqual(times(times(one, -1), -1), one)

    def test_times_of_the_empty(self):
        for k in (0, 1, -1, 7, GREAT):
            self.assertEqual(times(EMPTY, k), EMPTY)

    def test_times_form(self):
        for one in self.bags():
            for k in (0, 1, -1, -3, GREAT):
                self.assertTrue(has_form(times(one, k)))
