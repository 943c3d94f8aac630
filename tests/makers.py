"""Kinds, values, questions, stores and changes drawn by a fixed row of chances, the same in every run."""

import random

from samples import num, word

NUM, WORD = ("num",), ("word",)
NAMES = "a b c x y z".split()


def row_of(*parts):
    return ("row", parts)


def bag_kind(kind):
    return ("bag", kind)


def summed(pairs):
    """The bag of pairs in any order, told by the reference in plainly.py's way: no call of the program."""
    from plainly import plain_bag
    return plain_bag(pairs)


# Rows flat and nested, one like another, so that questions of each kind find their tables.
STOCK = {
    "s": row_of(("a", NUM), ("b", WORD)),
    "t": row_of(("a", NUM), ("b", WORD)),
    "n": NUM,
    "m": NUM,
    "w": WORD,
    "deep": row_of(("k", NUM), ("of", bag_kind(row_of(("a", NUM), ("b", WORD))))),
    "bags": bag_kind(NUM),
}
PLAIN_STOCK = {name: STOCK[name] for name in ("s", "t", "n", "m", "w")}
ASKED_KINDS = (
    NUM, WORD, row_of(), STOCK["s"], row_of(("c", NUM)), STOCK["deep"], bag_kind(NUM), bag_kind(bag_kind(NUM)),
    row_of(("in", row_of(("a", NUM))), ("of", bag_kind(WORD))),
)


class Maker:
    def __init__(self, seed):
        self.chance = random.Random(seed)

    def kind(self, depth):
        sort = self.chance.choice(["num", "word", "row", "bag"] if depth > 1 else ["num", "word"])
        if sort == "bag":
            return bag_kind(self.kind(depth - 1))
        if sort == "row":
            fields = sorted(self.chance.sample(NAMES, self.chance.randrange(4)))
            return ("row", tuple((field, self.kind(depth - 1)) for field in fields))
        return (sort,)

    def value(self, kind, most=3):
        if kind[0] == "num":
            return num(self.chance.choice([-2, -1, 0, 1, 2, 3, 10 ** 29]))
        if kind[0] == "word":
            return word(self.chance.choice(["u", "v", "uv"]))
        if kind[0] == "row":
            return ("row", tuple((field, self.value(part, most)) for field, part in kind[1]))
        return self.bag(kind[1], self.chance.randrange(most + 1), most)

    def bag(self, kind, rows, most=3):
        return summed([(self.value(kind, most), self.chance.choice([-2, -1, 1, 1, 2, 3])) for turn in range(rows)])

    def store(self, stock, most=3):
        return {name: self.bag(kind, self.chance.randrange(most + 1)) for name, kind in stock.items()}

    def change(self, stock, most=2):
        names = self.chance.sample(sorted(stock), self.chance.randrange(len(stock) + 1))
        return {name: self.bag(stock[name], self.chance.randrange(most + 1)) for name in names}

    def question(self, kind, kinds, stock, depth):
        if depth > 1 and self.chance.random() < 0.85:
            return self.chance.choice(self.wholes(kind, kinds, stock, depth - 1))()
        return self.chance.choice(self.leaves(kind, kinds, stock))()

    def leaves(self, kind, kinds, stock):
        known = [name for name, of in kinds.items() if of == kind]
        tables = [name for name, of in stock.items() if kind == bag_kind(of)]
        ways = [lambda: ("var", self.chance.choice(known))] * 3 if known else []
        ways += [lambda: ("table", self.chance.choice(tables))] * 3 if tables else []
        fields = [("at", field, ("var", name)) for name, of in kinds.items() if of[0] == "row"
                  for field, part in of[1] if part == kind]
        ways += [lambda: self.chance.choice(fields)] * 3 if fields else []
        return ways + [lambda: self.constant(kind, kinds, stock)]

    def constant(self, kind, kinds, stock):
        if kind[0] == "row":
            return ("row", tuple((field, self.question(part, kinds, stock, 1)) for field, part in kind[1]))
        if kind[0] == "bag":
            return ("none", kind[1]) if self.chance.random() < 0.3 else ("one", self.question(kind[1], kinds, stock, 1))
        return self.value(kind)

    def wholes(self, kind, kinds, stock, depth):
        def ask(wanted, more=()):
            return self.question(wanted, {**kinds, **dict(more)}, stock, depth)

        def bound(word):
            name, over = self.chance.choice(NAMES), self.chance.choice(ASKED_KINDS + tuple(stock.values()))
            first = ask(bag_kind(over) if word == "for" else over)
            return (word, name, first, ask(kind, {name: over}))

        def at():
            field = self.chance.choice(NAMES)
            others = [(name, NUM) for name in self.chance.sample(NAMES, 2) if name != field]
            return ("at", field, ask(("row", tuple(sorted(others + [(field, kind)])))))
        ways = [lambda: bound("let"), at]
        if kind[0] == "num":
            ways += [lambda: ("add", ask(NUM), ask(NUM)), lambda: ("mul", ask(NUM), ask(NUM))]
        if kind[0] == "row":
            ways += [lambda: ("row", tuple((field, ask(part)) for field, part in kind[1]))] * 2
        if kind[0] == "bag":
            ways += [lambda: bound("for")] * 3 + [
                lambda: ("one", ask(kind[1])), lambda: ("both", ask(kind), ask(kind)),
                lambda: ("times", self.chance.choice([-1, 0, 1, 3]), ask(kind)),
                lambda: ("when", self.claim(kinds, stock, depth), ask(kind)),
            ]
        return ways

    def claim(self, kinds, stock, depth):
        words = ["same", "under"] + (["and", "or", "not"] if depth > 1 else [])
        claim = self.chance.choice(words)
        if claim in ("and", "or", "not"):
            many = 1 if claim == "not" else 2
            return (claim,) + tuple(self.claim(kinds, stock, depth - 1) for turn in range(many))
        kind = NUM if claim == "under" else self.chance.choice([NUM, WORD])
        inner = max(depth - 1, 1)
        return (claim, self.question(kind, kinds, stock, inner), self.question(kind, kinds, stock, inner))


def size(question):
    """How many knots: tuples that begin with a word, kinds left out."""
    from plainly import parts_below
    return 1 + sum(size(part) for part in parts_below(question))


def drawn(seed, many, kinds=ASKED_KINDS, most=120, stock=STOCK):
    """Questions of bags of these kinds, over the stock, without free variables and of a size that is soon answered."""
    maker = Maker(seed)
    found = []
    while len(found) < many:
        kind = bag_kind(maker.chance.choice(kinds))
        question = maker.question(kind, {}, stock, maker.chance.randrange(2, 7))
        if 3 <= size(question) <= most:
            found.append((question, kind, maker.store(stock), maker.change(stock)))
    return found


def drawn_open(seed, many, most=120):
    """Questions of any kind, with free variables: tuples (question, kind, kinds, values, store)."""
    maker = Maker(seed)
    found = []
    while len(found) < many:
        kinds = {name: maker.chance.choice(ASKED_KINDS) for name in NAMES}
        kind = maker.chance.choice(ASKED_KINDS + tuple(bag_kind(rows) for rows in ASKED_KINDS) * 3)
        question = maker.question(kind, kinds, STOCK, maker.chance.randrange(2, 7))
        if 3 <= size(question) <= most:
            values = {name: maker.value(of) for name, of in kinds.items()}
            found.append((question, kind, kinds, values, maker.store(STOCK)))
    return found
