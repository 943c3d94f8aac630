import unittest

from keptnest.data.texts import read, shown
from keptnest.errors import NoValue
from samples import GREAT, RISING, TAKEN_WORDS, bag, has_form, in_bag, in_row, nested, num, row, word

WRITTEN = (
    (num(0), "0"),
    (num(7), "7"),
    (num(10), "10"),
    (num(-1), "-1"),
    (num(-120), "-120"),
    (num(GREAT), "987654321098765432109876543210"),
    (num(-GREAT), "-987654321098765432109876543210"),
    (word("a"), "'a"),
    (word("z"), "'z"),
    (word("abcdefgh"), "'abcdefgh"),
    (row(), "<>"),
    (row(("a", num(1))), "<a: 1>"),
    (row(("a", num(1)), ("b", word("x"))), "<a: 1, b: 'x>"),
    (row(("a", num(-1)), ("b", row()), ("c", bag())), "<a: -1, b: <>, c: {}>"),
    (row(("abcdefgh", row(("z", num(0))))), "<abcdefgh: <z: 0>>"),
    (bag(), "{}"),
    (bag((num(5), 1)), "{5}"),
    (bag((num(5), 2)), "{5 * 2}"),
    (bag((num(5), -1)), "{5 * -1}"),
    (bag((num(-5), -2)), "{-5 * -2}"),
    (bag((num(5), GREAT)), "{5 * 987654321098765432109876543210}"),
    (bag((num(1), 1), (word("b"), 3)), "{1, 'b * 3}"),
    (bag((num(1), 3), (word("b"), 1), (bag(), -2)), "{1 * 3, 'b, {} * -2}"),
    (bag((row(("k", num(1)), ("of", bag((word("u"), 10)))), 1), (bag((bag(), 1)), 1)),
     "{<k: 1, of: {'u * 10}>, {{}}}"),
)

TOLD_OTHERWISE = (
    ("<b: 1, a: 2>", row(("a", num(2)), ("b", num(1)))),
    ("<c: 1, a: 2, b: {}>", row(("a", num(2)), ("b", bag()), ("c", num(1)))),
    ("<b: 1, aa: 2, a: 3>", row(("a", num(3)), ("aa", num(2)), ("b", num(1)))),
    ("{2, 1}", bag((num(1), 1), (num(2), 1))),
    ("{10, 9, -1}", bag((num(-1), 1), (num(9), 1), (num(10), 1))),
    ("{{}, <>, 'a, 0}", bag((num(0), 1), (word("a"), 1), (row(), 1), (bag(), 1))),
    ("{1, 1}", bag((num(1), 2))),
    ("{1, 1, 1 * 5, 1 * -3}", bag((num(1), 4))),
    ("{1, 2, 1}", bag((num(1), 2), (num(2), 1))),
    ("{1, 1 * -1}", bag()),
    ("{1 * 2, 2, 1 * -2}", bag((num(2), 1))),
    ("{1 * 2, 1 * -1}", bag((num(1), 1))),
    ("{<b: 1, a: 2>, <a: 2, b: 1>}", bag((row(("a", num(2)), ("b", num(1))), 2))),
    ("{{1, 2}, {2, 1}}", bag((bag((num(1), 1), (num(2), 1)), 2))),
    ("{{1, 1 * -1}, {}}", bag((bag(), 2))),
    ("{{1, 1 * -1} * 3, {} * -3}", bag()),
    ("<a: {3, 3 * -1}>", row(("a", bag()))),
)

REFUSED_NUMBERS = (
    "00", "01", "007", "-0", "-00", "-01", "+1", "--1", "-", "1-", "1-2", "- 1", "1 2", "1.5", "1_0", "1e3", "0x1",
    "1,000", "\u0661", "\u00b2", "1\u0661",
)
REFUSED_WORDS = (
    "'", "a", "abc", "''a", "'a'", "' a", "'A", "'aB", "'Ab", "'a1", "'1", "'a_b", "'a-b", "'abcdefghi",
    "'aaaaaaaaaaaa", "\"a", "'\u00e4", "'\u0430", "'<>", "'5",
)
REFUSED_ROWS = (
    "<a>", "<a:>", "<a: >", "<a: 1,>", "<a: 1, >", "<, a: 1>", "<a: 1,, b: 2>", "<a: 1, , b: 2>", "<: 1>", "<1>",
    "<a: 1 b: 2>", "<a: 1; b: 2>", "<a = 1>", "<'a: 1>", "<1: 1>", "<A: 1>", "<aB: 1>", "<abcdefghi: 1>",
    "<a1: 1>", "<a_b: 1>", "<a: 1, a: 2>", "<a: 1, a: 1>", "<a: 1, b: 2, a: 3>", "<b: <a: 1, a: 1>>", "<a: 1 * 2>",
    "<a:: 1>", "<a: b: 1>", "<a: 1, 2>", "<1, a: 2>", "<,>",
)
REFUSED_BAGS = (
    "{,}", "{1,}", "{1, }", "{, 1}", "{1,, 2}", "{1, , 2}", "{1; 2}", "{1 2}", "{1 *}", "{1 * }", "{* 2}", "{ * 2}",
    "{1 * 0}", "{1 * 1}", "{1 * -0}", "{1 * 00}", "{1 * 01}", "{1 * 02}", "{1 * -02}", "{1 * +2}", "{1 * --2}",
    "{1 * 'a}", "{1 * <>}", "{1 * {}}", "{1 * 2 * 3}", "{1 * a}", "{1 * 2 3}", "{a: 1}", "{1 x 2}", "{1 ** 2}",
    "{1 * 0, 2}", "{1 * 1, 2}", "{2, 1 * 1}", "{{1 * 1}}", "{<> * 1}", "<a: {1 * 0}>", "{* 2, 1}", "{1 * 2.0}",
)
REFUSED_BLANKS = (
    " ", "  ", " 1", "1 ", " 'a", "'a ", "' a", " <>", "<> ", "< >", " {}", "{} ", "{ }", "\t", "1\n", "\n1", "{\n}",
    "<a:1>", "<a:  1>", "<a : 1>", "< a: 1>", "<a: 1 >", "<a: 1,b: 2>", "<a: 1,  b: 2>", "<a: 1 , b: 2>",
    "<a: 1 ,b: 2>", "<a:\t1>", "<a: 1,\nb: 2>",
    "{ 1}", "{1 }", "{1,2}", "{1,  2}", "{1 , 2}", "{1 ,2}", "{1,\t2}", "{1*2}", "{1 *2}", "{1* 2}", "{1  * 2}",
    "{1 *  2}", "{1 * 2 }", "{1 * -2 }", "{1 * 2 , 3}", "{1 * 2,3}", "{1 * - 2}", "{1\t* 2}",
)
REFUSED_BRACKETS = (
    "<", ">", "{", "}", "<}", "{>", "<<>", "<>>", "{{}", "{}}", "{<}>", "<{>}", "{1", "1}", "<a: 1", "a: 1>",
    "<a: 1}", "{1>", "{1, 2", "{1,", "{1 ", "{1 *", "{1 * ", "{1 * 2", "<a", "<a:", "<a: ", "<a: 1,", "<a: 1, ",
    "<a: {1>", "<a: {1>}", "{<a: 1}", "{1}}", "<a: 1>>", "[]", "()", "(1)", "<<>>", "<{}>",
)
REFUSED_BEHIND = (
    "1'a", "'a1", "1<>", "1{}", "'a'b", "'a<>", "<>1", "<><>", "<>{}", "{}{}", "{}<>", "{}1", "{} * 2", "1 * 2",
    "'a * 2", "1, 2", "<a: 1>, 2", "{1}, {2}", "1,", "{},", "<>.", "0 0", "{1} {2}", "{1}\n", "1;", "{1}~", "1 ",
)


class TestShown(unittest.TestCase):
    def test_sign_by_sign(self):
        for value, text in WRITTEN:
            self.assertEqual(shown(value), text)

    def test_samples_in_parts(self):
        for value in RISING:
            self.assertEqual(shown(in_bag(value)), "{" + shown(value) + "}")
            self.assertEqual(shown(bag((value, -2))), "{" + shown(value) + " * -2}")
            self.assertEqual(shown(in_row(value)), "<f: " + shown(value) + ">")
            self.assertEqual(shown(row(("a", value), ("b", value))), f"<a: {shown(value)}, b: {shown(value)}>")

    def test_unlike_values_have_unlike_texts(self):
        self.assertEqual(len({shown(value) for value in RISING}), len(RISING))

    def test_deeper_than_what_is_read(self):
        self.assertEqual(shown(nested(200, in_bag, bag())), "{" * 200 + "}" * 200)
        self.assertEqual(shown(nested(200, in_row, row())), "<f: " * 199 + "<>" + ">" * 199)

    def test_numbers_of_many_figures(self):
        self.assertEqual(shown(num(10 ** 1999)), "1" + "0" * 1999)
        self.assertEqual(shown(bag((num(0), -(10 ** 1999)))), "{0 * -1" + "0" * 1999 + "}")


class TestRead(unittest.TestCase):
    def test_what_is_shown(self):
        for value, text in WRITTEN:
            self.assertEqual(read(text), value)

    def test_samples_come_back(self):
        for value in RISING:
            self.assertEqual(read(shown(value)), value)
            for wrap in (in_bag, in_row, lambda part: row(("a", part), ("b", bag((part, -3))))):
                self.assertEqual(read(shown(wrap(value))), wrap(value))
        everything = ("bag", tuple((value, place - 99) for place, value in enumerate(RISING)))
        self.assertEqual(read(shown(everything)), everything)

    def test_any_order_and_more_than_once(self):
        for text, value in TOLD_OTHERWISE:
            self.assertEqual(read(text), value, text)

    def test_samples_backwards(self):
        backwards = "{" + ", ".join(shown(value) for value in reversed(RISING)) + "}"
        self.assertEqual(read(backwards), ("bag", tuple((value, 1) for value in RISING)))

    def test_told_is_built_as_the_document_tells(self):
        for text in [text for value, text in WRITTEN] + [text for text, value in TOLD_OTHERWISE]:
            self.assertTrue(has_form(read(text)), text)

    def test_numbers_are_whole_numbers(self):
        self.assertIs(type(read("1")[1]), int)
        self.assertIs(type(read("{0}")[1][0][1]), int)

    def test_names_up_to_eight_letters(self):
        for name in ("a", "abcdefgh", "zzzzzzzz", "nums", "nu", "ors", "o", "truth", "key", "val", "go", "words"):
            self.assertEqual(read("'" + name), word(name))
            self.assertEqual(read("<" + name + ": 1>"), row((name, num(1))))

    def test_each_letter_and_each_figure(self):
        for letter in "abcdefghijklmnopqrstuvwxyz":
            self.assertEqual(read("'" + letter), word(letter))
            self.assertEqual(read("<" + letter + ": 0>"), row((letter, num(0))))
        for number in list(range(-30, 31)) + [1234567890, -9876543210]:
            self.assertEqual(read(str(number)), num(number))

    def test_twelve_knots_within_one_another(self):
        for wrap in (in_bag, in_row):
            for inner in (num(0), word("a"), row(), bag()):
                value = nested(12, wrap, inner)
                self.assertEqual(read(shown(value)), value)
        mixed = nested(6, lambda part: in_bag(in_row(part)), in_bag(num(3)))
        self.assertEqual(read(shown(mixed)), mixed)

    def test_many_beside_one_another_are_not_deep(self):
        value = ("bag", tuple((num(k), 2) for k in range(100, 500)))
        self.assertEqual(read(shown(value)), value)
        twelve = shown(nested(11, in_bag, num(1)))
        self.assertEqual(read("{" + ", ".join([twelve] * 9) + "}"), bag((nested(11, in_bag, num(1)), 9)))

    def test_long_numbers(self):
        self.assertEqual(read("1" + "0" * 1999), num(10 ** 1999))
        self.assertEqual(read("{1 * -" + "9" * 30 + "}"), bag((num(1), -(10 ** 30 - 1))))

    def test_what_was_read_ahead_does_not_matter(self):
        one = read("{1, 1}")
        with self.assertRaises(NoValue):
            read("{1, 1")
        self.assertEqual((one, read("{1, 1}")), (bag((num(1), 2)), bag((num(1), 2))))


class TestRefused(unittest.TestCase):
    def refused(self, text):
        with self.assertRaises(NoValue, msg=repr(text)) as caught:
            read(text)
        self.assertIs(type(caught.exception), NoValue)

    def each_refused(self, texts):
        for text in texts:
            self.refused(text)

    def test_the_empty_text(self):
        self.refused("")

    def test_numbers(self):
        self.each_refused(REFUSED_NUMBERS)
        for text in REFUSED_NUMBERS:
            self.each_refused(["{" + text + "}", "<a: " + text + ">", "{5 * " + text + "}"])

    def test_words(self):
        self.each_refused(REFUSED_WORDS)
        for text in REFUSED_WORDS:
            self.each_refused(["{" + text + "}", "<a: " + text + ">"])

    def test_words_taken_out(self):
        self.assertEqual(len(TAKEN_WORDS), 21)
        for taken in TAKEN_WORDS:
            self.each_refused(["'" + taken, "{'" + taken + "}", "<" + taken + ": 1>", "<a: 1, " + taken + ": 1>"])

    def test_rows(self):
        self.each_refused(REFUSED_ROWS)

    def test_bags(self):
        self.each_refused(REFUSED_BAGS)

    def test_blanks(self):
        self.each_refused(REFUSED_BLANKS)

    def test_brackets(self):
        self.each_refused(REFUSED_BRACKETS)

    def test_signs_behind(self):
        self.each_refused(REFUSED_BEHIND)

    def test_each_beginning_of_a_text(self):
        for text in ("<a: {'x * -20, <b: 1>}, c: <>>", "{{1 * 3, {}}, 'abc}"):
            read(text)
            for end in range(len(text)):
                self.refused(text[:end])

    def test_a_blank_more_or_less_anywhere(self):
        text = "{<ab: -1, c: {}> * 3, 'ab, {'a * -2, <>}, 10}"
        read(text)
        for place in range(len(text) + 1):
            self.refused(text[:place] + " " + text[place:])
        for place, sign in enumerate(text):
            if sign == " ":
                self.refused(text[:place] + text[place + 1:])

    def test_each_sign_alone_and_behind(self):
        for sign in [chr(code) for code in range(128)] + ["\u00a0", "\u00e4", "\u0660"]:
            self.refused("{}" + sign)
            self.refused("<>" + sign)
            if sign not in "0123456789":
                self.refused(sign)
                self.refused("1" + sign)
            if sign not in "abcdefghijklmnopqrstuvwxyz":
                self.refused("'" + sign)
                self.refused("'a" + sign)
            if sign != "}":
                self.refused("{" + sign)
                self.refused("{'a" + sign)
            if sign != ">":
                self.refused("<" + sign)
                self.refused("<a: 'a" + sign)

    def test_thirteen_knots_within_one_another(self):
        for wrap in (in_bag, in_row):
            for inner in (num(0), word("a"), row(), bag()):
                for depth in (13, 14, 50):
                    self.refused(shown(nested(depth, wrap, inner)))
        self.refused(shown(nested(7, lambda part: in_bag(in_row(part)), num(3))))
        self.refused("{1, " + shown(nested(12, in_bag, num(1))) + "}")

    def test_thirteen_knots_also_where_they_come_to_nought(self):
        deep = shown(nested(12, in_bag, num(1)))
        self.refused("{" + deep + ", " + deep + " * -1}")

    def test_four_thousand_brackets(self):
        for piece in ("{", "}", "<", ">", "{}", "<>", "{<", "<{", "}{", "><", "{{}", "}}{{", "<f: ", "{<f: ", "{1, "):
            self.refused((piece * 4000)[:4000])
        self.refused("{" * 2000 + "}" * 2000)
        self.refused("<" * 2000 + ">" * 2000)
        self.refused("{" * 1999 + "<>" + "}" * 1999)
