"""Questions shortened by the short rules, with the chain that leads there."""

from keptnest.asks.questions import bound_in, under
from keptnest.turns.places import Place
from keptnest.turns.rules import has_shape, is_free, turns


class Shortening:
    # What is still to be done waits on a stack with the path where it is to be done. Each thing there lies beside or
    # above those done ahead of it, so that no turning moves a path that still waits.
    def __init__(self, question):
        self.place = Place(question)
        self.chain = []
        self.waiting = []

    def later(self, step, path):
        self.waiting.append((step, path))

    def run(self):
        while self.waiting:
            step, path = self.waiting.pop()
            step(self, path)

    def at(self, path):
        self.place.go(path)
        return self.place.knot()

    def turn(self, path, rule):
        self.place.go(path)
        if not turns(self.place, rule):
            return False
        self.chain.append((path, rule))
        return True


def shortened(question):
    work = Shortening(question)
    work.later(visit, ())
    work.run()
    return (work.place.whole(), tuple(work.chain))


def visit(work, path):
    knot = work.at(path)
    if knot[0] == "at":
        visit_at(work, path, knot)
    elif knot[0] in FIRST_WITHIN:
        all_later(work, path, FIRST_WITHIN[knot[0]])
    else:
        visit_below(work, path, knot)


def visit_below(work, path, knot):
    work.later(check, path)
    visit_parts(work, path, list(range(len(under(knot)))))


def visit_parts(work, path, places):
    for place in reversed(places):
        work.later(visit, path + (place,))


def visit_at(work, path, knot):
    # The row is turned ahead of all that lies within, as only one part of it stays.
    lowest = path
    while knot[2][0] == "at":
        knot = knot[2]
        lowest = lowest + (0,)
    if work.turn(lowest, "atrow"):
        work.later(visit, path)
    elif knot[2][0] == "let":
        work.later(visit, path)
        work.later(put_in_first, lowest + (0,))
        if is_asked(knot[1], knot[2]):
            work.later(visit, lowest + (0, 0))
    else:
        visit_below(work, path, work.at(path))


def is_asked(field, let):
    name, other, inner = let[1:]
    if inner[0] == "row":
        inner = dict(inner[1]).get(field, inner)
    return is_free(name, inner)


def put_in_first(work, path):
    work.turn(path, "letin")


def go_on(work, path):
    # A for, when or times of which all is short but the bag that it takes apart: turned from outside, so that what it
    # brings along is short when it is copied, and great sums are gone through once.
    knot = work.at(path)
    place = 1 if knot[0] == "when" else 0
    found = FROM_OUTSIDE.get((knot[0], under(knot)[place][0]))
    if found is None:
        work.later(check, path)
        work.later(visit, path + (place,))
    else:
        rule, steps = found
        work.turn(path, rule)
        all_later(work, path, steps)


def all_later(work, path, steps):
    for step, below in reversed(steps):
        work.later(step, path + below)


def bind(work, path):
    # A let whose inner question is short already: what it binds is not looked at where nothing becomes of it.
    name, other, inner = work.at(path)[1:]
    uses = uses_of(name, inner)
    work.later(put_in_place, path)
    fields = [field for use, field in uses]
    if other[0] == "row" and all([field in dict(other[1]) for field in fields]):
        # The parts that no one asks for go with the row, and may be great.
        visit_parts(work, path + (0,), [place for place, pair in enumerate(other[1]) if pair[0] in fields])
    elif uses:
        work.later(visit, path + (0,))


def uses_of(name, question):
    # Pairs (path, field), the field that is asked for right there or None.
    found = []
    waiting = [(question, (), None)]
    while waiting:
        knot, path, field = waiting.pop()
        if knot == ("var", name):
            found.append((path, field))
        asked = knot[1] if knot[0] == "at" else None
        for place, part in enumerate(under(knot)):
            if name not in bound_in(knot, place):
                waiting.append((part, path + (place,), asked))
    return found


def put_in_place(work, path):
    name, other, inner = work.at(path)[1:]
    uses = uses_of(name, inner)
    work.turn(path, "letin")
    # The longer paths are done first, and so each behind all those below it.
    for above in sorted(paths_above([use for use, field in uses]), key=len):
        work.later(check, path + above)


def paths_above(paths):
    found = {}
    for path in paths:
        while path != () and path[:-1] not in found:
            path = path[:-1]
            found[path] = True
    return list(found)


def check(work, path):
    # All that lies below is short already.
    knot = work.at(path)
    for rule in SHORT_RULES.get(knot[0], ()):
        if has_shape(knot, rule) and work.turn(path, rule):
            all_later(work, path, AFTER[rule])
            return


FIRST_WITHIN = {
    "for": ((visit, (1,)), (go_on, ())),
    "let": ((visit, (1,)), (bind, ())),
    "when": ((visit, (0,)), (go_on, ())),
    "times": ((go_on, ()),),
}
FROM_OUTSIDE = {
    ("for", "one"): ("forone", ((bind, ()),)),
    ("for", "both"): ("forboth", ((go_on, (0,)), (go_on, (1,)))),
    ("for", "times"): ("fortimes", ((go_on, (0,)), (check, ()))),
    ("for", "when"): ("forwhen", ((visit, (0,)), (go_on, (1,)), (check, ()))),
    ("for", "for"): ("forfor", ((go_on, (1,)), (go_on, ()))),
    ("when", "both"): ("whenboth", ((go_on, (0,)), (go_on, (1,)))),
    ("when", "times"): ("whentimes", ((go_on, (0,)), (check, ()))),
    ("when", "for"): ("whenfor", ((go_on, (1,)), (go_on, ()))),
    ("when", "when"): ("whenwhen", ((visit, (0, 1)), (go_on, ()))),
    ("times", "both"): ("timesboth", ((go_on, (0,)), (go_on, (1,)))),
    ("times", "times"): ("timestimes", ((go_on, ()),)),
}
SHORT_RULES = {
    "at": ("atrow",),
    "for": ("forone", "forfor", "forboth", "fortimes", "forwhen", "bothin", "timesin"),
    "when": ("whenboth", "whentimes", "whenfor", "whenwhen"),
    "times": ("timestimes", "timesboth"),
}
AFTER = {
    "atrow": (),
    "forone": ((put_in_place, ()),),
    "forfor": ((check, (1,)), (check, ())),
    "forboth": ((check, (0,)), (check, (1,))),
    "fortimes": ((check, (0,)), (check, ())),
    "forwhen": ((check, (1,)), (check, ())),
    "bothin": ((check, (0,)), (check, (1,))),
    "timesin": ((check, ()),),
    "whenboth": ((check, (0,)), (check, (1,))),
    "whentimes": ((check, (0,)), (check, ())),
    "whenfor": ((check, (1,)), (check, ())),
    "whenwhen": ((check, ()),),
    "timestimes": ((check, ()),),
    "timesboth": ((check, (0,)), (check, (1,))),
}
