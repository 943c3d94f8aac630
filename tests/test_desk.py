import unittest

from keptnest.asks.kinds import kind_of
from keptnest.asks.questions import question_shown, read_question
from keptnest.data.kinds import kind_shown
from keptnest.data.texts import read, shown
from keptnest.errors import NoAsk, NoChange, NoKeep, NoKind, NoQuestion, NoTurning, NoValue
from keptnest.turns.shorter import shortened
from keptnest.whole import Desk
from makers import STOCK, Maker, bag_kind, drawn
from plainly import plain_answer
from samples import TAKEN_WORDS

BEGIN = (
    "table n {num}", "table p {<a: num, b: word>}", "table d {<k: num, of: {num}>}", "change n {1, 2 * 3}",
    "change p {<a: 1, b: 'u> * 2, <a: 2, b: 'v>}", "change d {<k: 1, of: {1 * 2}>}",
    "keep v for x table n both one var x one num 7", "keep w table p",
)
NO_NAMES = ("", "A", "nN", "n1", "abcdefghi", "-", "_", "n.", "'n", "1", "n\n", "{num}") + tuple(TAKEN_WORDS)


def desk_of(*lines):
    desk = Desk()
    for line in lines:
        desk.ask(line)
    return desk


class DeskTest(unittest.TestCase):
    def setUp(self):
        self.desk = desk_of(*BEGIN)

    def all_told(self):
        tables, names = self.desk.ask("tables"), self.desk.ask("names")
        return (tables, names, [self.desk.ask("rows " + table) for table in tables],
                [self.desk.ask("kept " + name) for name in names],
                [self.desk.ask("kind table " + table) for table in tables])

    def refused(self, error, line):
        ahead = self.all_told()
        with self.assertRaises(error, msg=repr(line)) as caught:
            self.desk.ask(line)
        self.assertIs(type(caught.exception), error, repr(line))
        self.assertEqual(self.all_told(), ahead)

    def told(self, line):
        found = self.desk.ask(line)
        self.assertIsInstance(found, list)
        return found


class TestLines(DeskTest):
    def test_a_row_of_lines(self):
        desk = Desk()
        for line, wanted in (
            ("tables", []), ("names", []), ("ask num 3", ["3"]), ("kind one word a", ["{word}"]),
            ("table n {num}", []), ("tables", ["n"]), ("rows n", ["{}"]), ("change n {1, 2 * 3}", []),
            ("rows n", ["{1, 2 * 3}"]), ("ask table n", ["{1, 2 * 3}"]), ("keep v table n", []),
            ("kept v", ["{1, 2 * 3}"]),
            ("change n {2 * -3, 5}", []), ("kept v", ["{1, 5}"]), ("rows n", ["{1, 5}"]), ("names", ["v"]),
            ("turn u v", []), ("names", ["u", "v"]), ("throw v", []), ("names", ["u"]), ("kept u", ["{1, 5}"]),
            ("change n {}", []), ("kept u", ["{1, 5}"]), ("table m {<a: num, b: {word}>}", []), ("names", []),
            ("tables", ["m", "n"]), ("rows n", ["{1, 5}"]), ("rows m", ["{}"]), ("keep u table m", []),
            ("change m {<a: 1, b: {'x}>}", []), ("kept u", ["{<a: 1, b: {'x}>}"]),
            ("kind table m", ["{<a: num, b: {word}>}"]),
        ):
            self.assertEqual(desk.ask(line), wanted, line)

    def test_table(self):
        for place, kind in enumerate(("{num}", "{word}", "{<>}", "{{num}}", "{<a: num>}",
                                      "{<a: num, b: word, c: <d: {<>}>>}")):
            name = "t" + "abcdef"[place]
            self.assertEqual(self.told(f"table {name} {kind}"), [])
            self.assertEqual(self.told(f"kind table {name}"), [kind])
            self.assertEqual(self.told(f"rows {name}"), ["{}"])
        self.assertEqual(self.told("tables"), ["d", "n", "p", "ta", "tb", "tc", "td", "te", "tf"])
        self.assertEqual(self.told("rows n"), ["{1, 2 * 3}"])

    def test_a_new_table_throws_out_what_is_kept(self):
        self.assertEqual(self.told("names"), ["v", "w"])
        self.told("table new {num}")
        self.assertEqual(self.told("names"), [])
        self.refused(NoKeep, "kept v")
        self.refused(NoKeep, "throw w")
        self.refused(NoKeep, "turn a v")
        self.told("keep v table new")
        self.told("change new {4}")
        self.assertEqual(self.told("kept v"), ["{4}"])

    def test_change(self):
        for line in ("change n {}", "change n {3}", "change n {2, 2 * 3, 1 * -1}", "change p {<b: 'u, a: 1> * -2}",
                     "change d {<k: 1, of: {1, 1}> * -1, <k: 3, of: {}>}"):
            self.assertEqual(self.told(line), [])
        self.assertEqual([self.told("rows " + name) for name in "npd"],
                         [["{2 * 7, 3}"], ["{<a: 2, b: 'v>}"], ["{<k: 3, of: {}>}"]])
        self.assertEqual(self.told("kept w"), ["{<a: 2, b: 'v>}"])
        self.assertEqual(self.told("kept v"), ["{2 * 7, 3, 7 * 8}"])

    def test_ask(self):
        for text, wanted in (
            ("num 1", "1"), ("num -5", "-5"), ("word a", "'a"), ("row 0", "<>"),
            ("row 2 a num 1 b table n", "<a: 1, b: {1, 2 * 3}>"),
            ("table n", "{1, 2 * 3}"), ("none num", "{}"), ("add num 2 mul num 3 num 4", "14"),
            ("for x table p when same at b var x word u one at a var x", "{1 * 2}"), ("at f row 1 f word q", "'q"),
            ("let x table n one var x", "{{1, 2 * 3}}"),
        ):
            self.assertEqual(self.told("ask " + text), [wanted])

    def test_kind(self):
        for text, wanted in (
            ("num 1", "num"), ("word a", "word"), ("row 0", "<>"), ("row 2 a num 1 b table n", "<a: num, b: {num}>"),
            ("table d", "{<k: num, of: {num}>}"), ("for x table d at of var x", "{num}"), ("none bag word", "{{word}}"),
        ):
            self.assertEqual(self.told("kind " + text), [wanted])

    def test_short(self):
        for text in ("num 1", "table n", "at f row 2 f num 1 g table p",
                     "for x both table n one num 1 one add var x num 2",
                     "let x num 1 add var x var x", "for y for x table n one var x one var y"):
            self.assertEqual(self.told("short " + text), [question_shown(shortened(read_question(text))[0])])
        self.assertEqual(self.told("short let x num 1 add var x var x"), ["add num 1 num 1"])

    def test_turn(self):
        self.assertEqual(self.told("turn a v"), [])
        self.assertEqual(self.told("turn b v - bothin"), [])
        self.assertEqual(self.told("turn c b 0 unfor - swapboth"), [])
        self.assertEqual(self.told("turn d b - swapboth - swapboth - swapboth"), [])
        self.assertEqual(self.told("names"), ["a", "b", "c", "d", "v", "w"])
        self.told("change n {5}")
        wanted = ["{1, 2 * 3, 5, 7 * 5}"]
        self.assertEqual([self.told("kept " + name) for name in "vabcd"], [wanted] * 5)
        self.told("throw v")
        self.told("keep deep one row 1 of for x table n times 2 times 3 one var x")
        self.told("turn x deep 0.0.1 timestimes 0.0 timesin")
        self.assertEqual(self.told("kept x"), self.told("kept deep"))
        self.refused(NoTurning, "turn y x 0.0.1 timestimes")

    def test_keep_throw_kept_names(self):
        self.assertEqual(self.told("keep a one table n"), [])
        self.assertEqual(self.told("kept a"), ["{{1, 2 * 3}}"])
        self.assertEqual(self.told("names"), ["a", "v", "w"])
        self.assertEqual(self.told("throw v"), [])
        self.assertEqual(self.told("names"), ["a", "w"])
        self.assertEqual(self.told("keep v none num"), [])
        self.assertEqual(self.told("kept v"), ["{}"])
        # A table's name may be one that is kept, and the other way about.
        self.told("keep n table n")
        self.assertEqual(self.told("kept n"), self.told("rows n"))

    def test_what_is_told_is_the_askers_own(self):
        for line in ("names", "tables", "rows n", "kept v", "ask num 1"):
            wanted = list(self.told(line))
            self.told(line).append("more")
            self.assertEqual(self.told(line), wanted)

    def test_two_desks_are_two(self):
        other = Desk()
        self.assertEqual((other.ask("tables"), other.ask("names")), ([], []))
        other.ask("table n {word}")
        self.assertEqual((self.told("kind table n"), other.ask("kind table n")), (["{num}"], ["{word}"]))

    def test_drawn(self):
        for question, kind, store, change in drawn(131, 80, most=60):
            desk = Desk()
            for name in STOCK:
                desk.ask(f"table {name} {kind_shown(bag_kind(STOCK[name]))}")
                desk.ask(f"change {name} {shown(store[name])}")
            text = question_shown(question)
            desk.ask("keep a " + text)
            self.assertEqual(desk.ask("ask " + text), [shown(plain_answer(question, {}, store))])
            self.assertEqual(desk.ask("kind " + text), [kind_shown(kind_of(question, {}, STOCK))])
            told, chain = shortened(question)
            steps = " ".join((".".join(map(str, path)) or "-") + " " + rule for path, rule in chain)
            desk.ask(f"turn b a {steps}".rstrip(" "))
            self.assertEqual(desk.ask("short " + text), [question_shown(told)])
            maker = Maker(len(text))
            for name, rows in maker.change(STOCK).items():
                desk.ask(f"change {name} {shown(rows)}")
            now = {name: read(desk.ask("rows " + name)[0]) for name in STOCK}
            self.assertEqual(desk.ask("kept a"), [shown(plain_answer(question, {}, now))])
            self.assertEqual(desk.ask("kept b"), desk.ask("kept a"))


class TestNoAsk(DeskTest):
    def test_other_lines(self):
        for line in (
            "", " ", "  ", "x", "tabl", "Table q {num}", "TABLES", "tablesx", "table", "change", "ask", "kind",
            "short", "turn",
            "keep", "throw", "kept", "rows", "help", "num 1", "table n", "table q", "change n", "keep a", "turn a",
            "get v",
            "names ", " names", "names v", "names  ", "tables ", " tables", "tables n", "throw v w", "throw v ",
            " throw v",
            "throw  v", "kept v ", "kept  v", "kept v w", " kept v", "rows n ", "rows  n", "rows n p", " rows n",
            " ask num 1",
            " change n {1}", "\tnames", "names\n", "throw", "rows", "ask\tnum 1", "question num 1", "answer v", "store",
        ):
            self.refused(NoAsk, line)

    def test_names_that_are_none(self):
        for name in NO_NAMES:
            for line in ("table {} {{num}}", "change {} {{1}}", "keep {} table n", "throw {}", "kept {}", "rows {}",
                         "turn {} v", "turn a {}", "turn {} v - bothin", "turn a {} - bothin"):
                self.refused(NoAsk, line.format(name))

    def test_kinds_that_are_none(self):
        for kind in (
            "", " ", "{}", "{", "num", "word", "<>", "<a: num>", "<a: {num}>", "{num", "{num}}", "num}", "{ num}",
            "{num }", " {num}",
            "{num} ", "{nums}", "{nu}", "{bag}", "{row}", "{Num}", "{<a:num>}", "{<a : num>}", "{<a: num,b: num>}",
            "{<a: num b: num>}",
            "{<b: num, a: num>}", "{<a: num, a: num>}", "{<a: num, >}", "{<a: >}", "{<a>}", "{<A: num>}",
            "{<num: num>}", "{<: num>}",
            "{<abcdefghi: num>}", "{num, word}", "{num * 2}", "{{}}", "{1}", "{'a}", "bag num", "row 1 a num",
            "{<a: num,  b: num>}",
            "{<a: num>", "{<a: num}", "{<a:  num>}", "{word} {num}", "{< >}", "{<a: num,>}", "{truth}", "{numword}",
            "{<a: num, b>}",
        ):
            self.refused(NoAsk, "table q " + kind)

    def test_kinds_of_twelve_and_thirteen_knots_within_one_another(self):
        for inner in ("num", "word", "<>"):
            self.refused(NoAsk, "table q " + "{" * 12 + inner + "}" * 12)
            self.refused(NoAsk, "table q " + "{" * 200 + inner + "}" * 200)
            self.refused(NoAsk, "table q {" + "<a: " * 11 + inner + ">" * 11 + "}")
            self.refused(NoAsk, "table q {<a: num, b: " + "{" * 10 + inner + "}" * 10 + ", c: num>}")
        for place, kind in enumerate(("{" * 11 + "num" + "}" * 11, "{" * 11 + "<>" + "}" * 11,
                                      "{" + "<a: " * 10 + "word" + ">" * 10 + "}",
                                      "{<a: num, b: " + "{" * 9 + "num" + "}" * 9 + ", c: num>}")):
            name = "q" + "abcd"[place]
            self.assertEqual(self.told(f"table {name} {kind}"), [])
            self.assertEqual(self.told(f"kind table {name}"), [kind])
        self.told("change qa " + "{" * 11 + "5" + "}" * 11)
        self.assertEqual(self.told("rows qa"), ["{" * 11 + "5" + "}" * 11])

    def test_tables_that_there_are_and_are_not(self):
        for line in ("table n {num}", "table p {num}", "table n {word}", "table n bad", "change q {1}", "change q bad",
                     "change q ", "rows q", "rows v", "change v {1}", "change w {}", "rows w"):
            self.refused(NoAsk, line)

    def test_paths_that_are_none(self):
        for path in ("", ".", "0.", ".0", "0..1", "-1", "-0", "00", "01", "0.01", "0.-1", "--", "-.0", "0.-", "+1",
                     "a", "0.a", "0,1",
                     "1e1", "0x1", "()", "0.0.", "1 ", "1.5.", "forone", "\u0661"):
            self.refused(NoAsk, f"turn a v {path} bothin")
            self.refused(NoAsk, f"turn a v - bothin {path} swapboth")
            # Ahead of what is refused with NoKeep and NoTurning.
            self.refused(NoAsk, f"turn w v {path} bothin")
            self.refused(NoAsk, f"turn a gone {path} bothin")
            self.refused(NoAsk, f"turn a v - no {path} bothin")

    def test_chains_that_are_none(self):
        for chain in ("-", "0", "- bothin -", "- bothin 0 unfor 1", "0.1", "bothin", "", " ", "- bothin ", "-  bothin",
                      " - bothin",
                      "- bothin  0 unfor"):
            self.refused(NoAsk, "turn a v " + chain)
            self.refused(NoAsk, "turn v gone " + chain)


class TestOthers(DeskTest):
    def test_no_value(self):
        for value in ("", " ", "{", "x", "{1", "{1}}", "{01}", "{-0}", "{1 * 0}", "{1 * 1}", "{1,2}", "{1,  2}",
                      " {1}", "{1} ", "{<a: 1, a: 1>}",
                      "{" * 13 + "}" * 13, "{'num}", "{1 *2}", "num 1", "{<a:1>}", "{A}", "1.5"):
            self.refused(NoValue, "change n " + value)
            self.refused(NoValue, "change p " + value)

    def test_no_change(self):
        for value in ("1", "'a", "<>", "<a: 1>", "{'a}", "{{}}", "{1, 'a}", "{<>}", "{{1}}", "-3", "0"):
            self.refused(NoChange, "change n " + value)
        for value in ("{1}", "{<a: 1>}", "{<a: 1, b: 2>}", "{<a: 1, b: 'u, c: 3>}", "<a: 1, b: 'u>",
                      "{<a: 'u, b: 'u>}"):
            self.refused(NoChange, "change p " + value)
        for value in ("{<k: 1, of: 1>}", "{<k: 1, of: {'a}>}", "{<k: 1, of: {}>, <k: 1, of: {1, {}}>}"):
            self.refused(NoChange, "change d " + value)

    def test_no_question(self):
        for text in ("", " ", "x", "num", "num 01", "num x", "var", "table", "table N", "one", "both table n",
                     "same num 1 num 1",
                     "when table n table n", "one num 1 ", " num 1", "one  num 1", "one num 1 num 2",
                     "row 2 b num 1 a num 1",
                     "row -1", "times 1 " * 20 + "table n", "not same num 1 num 1", "none", "none {num}",
                     "at num row 0", "for num table n table n"):
            for line in ("ask ", "kind ", "short ", "keep a ", "keep v "):
                self.refused(NoQuestion, line + text)

    def test_no_kind(self):
        for text, path in (
            ("var x", ()), ("table gone", ()), ("one var x", (0,)), ("for x table n one var y", (1, 0)),
            ("at a table n", ()), ("at z row 1 a num 1", ()), ("add num 1 word a", ()), ("both table n table p", ()),
            ("for x num 1 one num 1", ()), ("times 2 num 1", ()), ("when same num 1 word a table n", (0,)),
            ("table v", ()),
        ):
            for line in ("ask ", "kind ", "short "):
                self.refused(NoKind, line + text)
                with self.assertRaises(NoKind) as caught:
                    self.desk.ask(line + text)
                self.assertEqual(caught.exception.path, path)
            # Of keep it is NoKeep.
            self.refused(NoKeep, "keep a " + text)
            self.refused(NoKeep, "keep v " + text)

    def test_no_keep(self):
        for line in ("keep v table n", "keep w table n", "keep v num 1", "keep a num 1", "keep a word a",
                     "keep a row 0",
                     "keep a row 1 a table n", "keep a let x table n num 1", "throw a", "kept a", "throw n", "kept n",
                     "turn v w", "turn w v", "turn v v", "turn a b", "turn a a", "turn a n"):
            self.refused(NoKeep, line)

    def test_no_turning(self):
        for chain in ("- forone", "0 bothin", "0.0 bothin", "9 bothin", "- bothin - bothin", "- no", "- ",
                      "0.0.0.0 swapboth",
                      "- BOTHIN", "- bothin 0 unfor 5 unfor", "99999999999999999999999999 bothin", "- bothin*",
                      "1.2.3 letin",
                      "- unfor", "1 timesone"):
            self.refused(NoTurning, "turn a v " + chain)
            # NoKeep goes ahead.
            self.refused(NoKeep, "turn w v " + chain)
            self.refused(NoKeep, "turn v v " + chain)
            self.refused(NoKeep, "turn a gone " + chain)

    def test_two_in_one_line(self):
        for error, line in (
            # NoAsk ahead of all.
            (NoAsk, "keep N bad"), (NoAsk, "keep num var x"), (NoAsk, "keep A num 1"), (NoAsk, "change gone bad"),
            (NoAsk, "change gone 'a"), (NoAsk, "change N {1}"), (NoAsk, "table n bad"), (NoAsk, "table N {num}"),
            (NoAsk, "turn V gone"), (NoAsk, "turn v GONE"), (NoAsk, "turn a gone x no"), (NoAsk, "turn v w -1 bothin"),
            (NoAsk, "throw NUM"), (NoAsk, "kept NUM"), (NoAsk, "turn v gone - no 0"),
            # NoQuestion ahead of NoKeep and NoKind, NoValue ahead of NoChange, NoKeep ahead of NoTurning.
            (NoQuestion, "keep v bad"), (NoQuestion, "keep v one var x bad"), (NoQuestion, "ask both var x"),
            (NoQuestion, "kind one table gone x"), (NoValue, "change n {'a"), (NoValue, "change p {1} "),
            (NoKeep, "keep v var x"), (NoKeep, "turn v gone - no"), (NoKeep, "turn a gone 7.7 no"),
            (NoKeep, "turn w v 7 bothin"),
        ):
            self.refused(error, line)

    def test_behind_refusals_all_goes_on(self):
        for line in ("names v", "keep v table n", "change n bad", "change n {'a}", "turn a v - no", "table n {num}",
                     "ask var x"):
            with self.assertRaises(ValueError):
                self.desk.ask(line)
        self.told("change n {2 * -3}")
        self.told("turn a v - bothin")
        self.assertEqual((self.told("kept v"), self.told("kept a"), self.told("rows n")),
                         (["{1, 7}"], ["{1, 7}"], ["{1}"]))
