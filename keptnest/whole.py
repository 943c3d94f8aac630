"""The desk: tables and a keeper, asked by lines."""

from keptnest.asks.answers import answer
from keptnest.asks.kinds import kind_of
from keptnest.asks.questions import question_shown, read_question
from keptnest.changes.keeper import Keeper
from keptnest.data.kinds import kind_read, kind_shown
from keptnest.data.signs import is_name, number_of
from keptnest.data.texts import read, shown
from keptnest.errors import NoAsk, NoValue
from keptnest.turns.rules import led
from keptnest.turns.shorter import shortened

EMPTY = ("bag", ())


class Desk:
    def __init__(self):
        self.stock = {}
        self.keeper = Keeper({}, {})

    def ask(self, line):
        words = line.split(" ")
        if words[0] not in LINES:
            raise NoAsk("no line begins so")
        return LINES[words[0]](self, words[1:])


def refuse_unless(so, why):
    if not so:
        raise NoAsk(why)


def name_of(word):
    refuse_unless(is_name(word), "a name is due")
    return word


def only_name(words):
    refuse_unless(len(words) == 1, "just a name is due")
    return name_of(words[0])


def name_and_rest(words):
    # An empty part counts as one, and is judged by whoever reads it.
    refuse_unless(len(words) >= 2, "a name and more is due")
    return (name_of(words[0]), " ".join(words[1:]))


def name_of_table(desk, name):
    refuse_unless(name in desk.stock, "there is no such table")
    return name


def table_line(desk, words):
    name, text = name_and_rest(words)
    refuse_unless(name not in desk.stock, "there is such a table already")
    kind = kind_of_table(text)
    rows = desk.keeper.store()
    rows[name] = EMPTY
    desk.stock[name] = kind[1]
    desk.keeper = Keeper(desk.stock, rows)
    return []


def kind_of_table(text):
    try:
        kind = kind_read(text)
    except NoValue as fault:
        raise NoAsk("a kind is due") from fault
    refuse_unless(kind[0] == "bag", "a bag's kind is due")
    return kind


def change_line(desk, words):
    name, text = name_and_rest(words)
    name_of_table(desk, name)
    desk.keeper.change({name: read(text)})
    return []


def question_with_kind(desk, words):
    refuse_unless(len(words) >= 1, "a question is due")
    question = read_question(" ".join(words))
    return (question, kind_of(question, {}, desk.stock))


def ask_line(desk, words):
    question, kind = question_with_kind(desk, words)
    return [shown(answer(question, {}, desk.keeper.store()))]


def kind_line(desk, words):
    question, kind = question_with_kind(desk, words)
    return [kind_shown(kind)]


def short_line(desk, words):
    question, kind = question_with_kind(desk, words)
    return [question_shown(shortened(question)[0])]


def turn_line(desk, words):
    refuse_unless(len(words) >= 2, "two names are due")
    name, old = [name_of(word) for word in words[:2]]
    chain = chain_of(words[2:])
    desk.keeper.refuse_kept(name)
    told = led(desk.keeper.question_under(old), chain)
    desk.keeper.offer(name, old, chain, told)
    return []


def chain_of(words):
    refuse_unless(len(words) % 2 == 0, "a rule is due")
    return tuple([(path_of(path), rule) for path, rule in zip(words[::2], words[1::2])])


def path_of(text):
    if text == "-":
        return ()
    numbers = [number_of(figures) for figures in text.split(".")]
    refuse_unless(all([number is not None and number >= 0 for number in numbers]), "a path is due")
    return tuple(numbers)


def keep_line(desk, words):
    name, text = name_and_rest(words)
    desk.keeper.keep(name, read_question(text))
    return []


def throw_line(desk, words):
    desk.keeper.throw(only_name(words))
    return []


def kept_line(desk, words):
    return [shown(desk.keeper.told(only_name(words)))]


def names_line(desk, words):
    refuse_unless(words == [], "nothing more is due")
    return desk.keeper.names()


def tables_line(desk, words):
    refuse_unless(words == [], "nothing more is due")
    return sorted(desk.stock)


def rows_line(desk, words):
    name = name_of_table(desk, only_name(words))
    return [shown(desk.keeper.store()[name])]


LINES = {
    "table": table_line,
    "change": change_line,
    "ask": ask_line,
    "kind": kind_line,
    "short": short_line,
    "turn": turn_line,
    "keep": keep_line,
    "throw": throw_line,
    "kept": kept_line,
    "names": names_line,
    "tables": tables_line,
    "rows": rows_line,
}
