"""What the document tells of plans and sums of products, told a second time, and branches drawn for them."""

import random

from makers import NUM, WORD, row_of
from plainly import plain_answer, plain_bag, plain_free
from samples import num, row, word

ROW = row_of(("a", NUM), ("b", WORD), ("c", NUM))
TABLES = {"p": ROW, "q": ROW, "r": ROW}


def last_of(branch):
    return {name: number for number, (name, table) in enumerate(branch[1])}


def plain_fits(branch, plan):
    k, gens, claims, made = branch
    last, gone, settled = last_of(branch), [], []

    def ready(question):
        return {last[name] for name in plain_free(question)} <= set(gone)
    for step in plan:
        match step:
            case ("go", int(i)) if 0 <= i < len(gens):
                gone.append(i)
            case ("ask", int(j)) if 0 <= j < len(claims) and ready(claims[j]):
                settled.append(j)
            case ("seek", int(i), int(j)) if 0 <= i < len(gens) and 0 <= j < len(claims) and claims[j][0] == "same":
                name, (same, one, other) = gens[i][0], claims[j]
                sides = [rest for side, rest in ((one, other), (other, one)) if side[0] == "at" and side[2] == ("var",
                                                                                                                name)]
                if last[name] != i or not any(ready(rest) for rest in sides):
                    return False
                gone.append(i)
                settled.append(j)
            case _:
                return False
    return sorted(gone) == list(range(len(gens))) and sorted(settled) == list(range(len(claims)))


def plain_by_plan(branch, plan, store):
    k, gens, claims, made = branch
    last, looked, pairs = last_of(branch), 0, []

    def on(values, count, rest):
        nonlocal looked
        if not rest:
            pairs.append((plain_answer(made, values, store), count))
            return
        word_told, *numbers = rest[0]
        if word_told == "ask":
            if plain_answer(claims[numbers[0]], values, store):
                on(values, count, rest[1:])
            return
        name, table = gens[numbers[0]]
        for found, many in store[table][1]:
            more = {**values, name: found} if last[name] == numbers[0] else values
            if word_told == "go" or plain_answer(claims[numbers[1]], more, store):
                looked += 1
                on(more, count * many, rest[1:])
    on({}, k, plan)
    return plain_bag(pairs), looked


def all_plans(branch):
    """All plans that fit, by trying each step behind each beginning of one."""
    k, gens, claims, made = branch
    steps = [("go", i) for i in range(len(gens))] + [("ask", j) for j in range(len(claims))]
    steps += [("seek", i, j) for i in range(len(gens)) for j in range(len(claims))]

    def behind(plan):
        gone = {step[1] for step in plan if step[0] != "ask"}
        settled = {step[-1] for step in plan if step[0] != "go"}
        found = [plan] if plain_fits(branch, plan) else []
        for step in steps:
            if not (step[0] != "ask" and step[1] in gone or step[0] != "go" and step[-1] in settled):
                found += behind(plan + (step,))
        return found
    return behind(())


def plain_sums(branch, store):
    k, gens, claims, made = branch
    found = {}

    def on(values, tokens):
        if len(tokens) < len(gens):
            name, table = gens[len(tokens)]
            for value, count in store[table][1]:
                on({**values, name: value}, tokens + ((table, value),))
        elif all(plain_answer(claim, values, store) for claim in claims):
            often = found.setdefault(plain_answer(made, values, store), {})
            often[tuple(sorted(tokens))] = often.get(tuple(sorted(tokens)), 0) + k
    on({}, ())
    return {value: tuple(sorted(often.items())) for value, often in found.items()}


def plain_worth(pairs, store):
    total = 0
    for tokens, factor in pairs:
        for table, value in tokens:
            factor *= sum(count for other, count in store[table][1] if other == value)
        total += factor
    return total


class BranchMaker:
    def __init__(self, seed):
        self.chance = random.Random(seed)

    def value(self):
        return row(("a", num(self.chance.randrange(3))), ("b", word(self.chance.choice("uv"))),
                   ("c", num(self.chance.randrange(3))))

    def rows(self, most):
        return plain_bag([(self.value(), self.chance.choice([-2, -1, 1, 1, 3]))
                          for turn in range(self.chance.randrange(most + 1))])

    def store(self, most=4):
        return {table: self.rows(most) for table in TABLES}

    def side(self, names, field):
        if not names or self.chance.random() < 0.2:
            return word("u") if field == "b" else num(self.chance.randrange(3))
        return ("at", field, ("var", self.chance.choice(names)))

    def claim(self, names):
        claim = self.chance.choice(["same"] * 5 + ["under", "not", "or"])
        if claim in ("not", "or"):
            return (claim,) + tuple(self.claim(names) for turn in range(1 if claim == "not" else 2))
        field = "a" if claim == "under" else self.chance.choice("abc")
        one, other = self.side(names, field), self.side(names, field)
        if field != "b" and self.chance.random() < 0.2:
            other = ("add", other, self.side(names, "c"))
        return (claim, one, other) if self.chance.random() < 0.5 else (claim, other, one)

    def branch(self, gens, claims):
        names = ["xyzw"[i] if self.chance.random() < 0.7 else self.chance.choice("xyz") for i in range(gens)]
        made = ("row", tuple((name, ("at", self.chance.choice("abc"), ("var", name))) for name in sorted(set(names))
                             if self.chance.random() < 0.7))
        return (self.chance.choice([1, 1, -2, 3]), tuple((name, self.chance.choice("pqr")) for name in names),
                tuple(self.claim(names) for turn in range(claims)), made)


def drawn_branches(seed, many, most_gens=3, most_claims=3):
    maker = BranchMaker(seed)
    return [(maker.branch(maker.chance.randrange(most_gens + 1), maker.chance.randrange(most_claims + 1)),
             maker.store()) for turn in range(many)]
