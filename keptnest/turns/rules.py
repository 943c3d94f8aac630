"""Turnings: a question changed at a path by a rule, so that its answers stay."""

from keptnest.asks.questions import bound_in, free, under, with_under
from keptnest.asks.walks import Walk
from keptnest.errors import NoTurning
from keptnest.turns.places import Place, Spare, names_in


def at_path(question, path):
    place = Place(question)
    return place.knot() if place.go(path) else None


def turned(question, path, rule):
    return led(question, ((path, rule),))


def led(question, chain):
    place = Place(question)
    for path, rule in chain:
        # No rule fits a claim.
        if not place.go(path) or not turns(place, rule):
            raise NoTurning("the path leads to no question that the rule fits")
    return place.whole()


def turns(place, rule):
    knot = place.knot()
    if rule not in RULES or not has_shape(knot, rule):
        return False
    told = RULES[rule][3](knot, Spare(place, {}))
    if told is None:
        return False
    place.put(told)
    return True


def has_shape(knot, rule):
    word, which, inner, turning = RULES[rule]
    return knot[0] == word and (inner is None or under(knot)[which][0] == inner)


def put_in(question, name, other):
    taken = names_in(other)
    taken[name] = True
    return put(question, name, other, Spare(Place(question), taken))


def put(question, name, other, spare):
    walk = Walk()
    walk.later(begin, question, ({name: other}, (name, free(other), spare)))
    return walk.run()


def begin(walk, question, around):
    puts, bringing = around
    if not puts:
        walk.tell(question)
    elif question[0] == "var":
        walk.tell(puts.get(question[1], question))
    elif question[0] in ("for", "let"):
        begin_binding(walk, question, puts, bringing)
    else:
        walk.later(finish, question, around)
        for part in reversed(under(question)):
            walk.later(begin, part, around)


def begin_binding(walk, question, puts, bringing):
    # Renamed ahead of all that lies within, as new names are given in the order in which bindings are written.
    word, bound, first, inner = question
    name, brought, spare = bringing
    within = dict([(other, meaning) for other, meaning in puts.items() if other != bound])
    if bound in brought and name in within and is_free(name, inner):
        fresh = spare.fresh()
        within[bound] = ("var", fresh)
        bound = fresh
    walk.later(finish, (word, bound, first, inner), bringing)
    walk.later(begin, inner, (within, bringing))
    walk.later(begin, first, (puts, bringing))


def is_free(name, question):
    waiting = [question]
    while waiting:
        knot = waiting.pop()
        if knot == ("var", name):
            return True
        if name in bound_in(knot, 1):
            waiting.append(knot[2])
        else:
            waiting.extend(under(knot))
    return False


def finish(walk, question, around):
    walk.tell(with_under(question, walk.take(len(under(question)))))


def renamed(question, name, new, spare):
    return put(question, name, ("var", new), spare)


def at_row(knot, spare):
    return dict(knot[2][1]).get(knot[1])


def let_in(knot, spare):
    name, other, inner = knot[1:]
    return put(inner, name, other, spare)


def for_one(knot, spare):
    name, one, inner = knot[1:]
    return ("let", name, one[1], inner)


def for_for(knot, spare):
    outer, within, last = knot[1:]
    name, over, inner = within[1:]
    if name != outer and is_free(name, last):
        fresh = spare.fresh()
        inner = renamed(inner, name, fresh, spare)
        name = fresh
    return ("for", name, over, ("for", outer, inner, last))


def for_both(knot, spare):
    name, both, inner = knot[1:]
    return ("both", ("for", name, both[1], inner), ("for", name, both[2], inner))


def for_times(knot, spare):
    name, times, inner = knot[1:]
    return ("times", times[1], ("for", name, times[2], inner))


def for_when(knot, spare):
    name, when, inner = knot[1:]
    return ("when", when[1], ("for", name, when[2], inner))


def both_in(knot, spare):
    name, over, both = knot[1:]
    return ("both", ("for", name, over, both[1]), ("for", name, over, both[2]))


def times_in(knot, spare):
    name, over, times = knot[1:]
    return ("times", times[1], ("for", name, over, times[2]))


def when_both(knot, spare):
    claim, both = knot[1:]
    return ("both", ("when", claim, both[1]), ("when", claim, both[2]))


def when_times(knot, spare):
    claim, times = knot[1:]
    return ("times", times[1], ("when", claim, times[2]))


def when_for(knot, spare):
    claim, within = knot[1:]
    name, over, inner = within[1:]
    if is_free(name, claim):
        fresh = spare.fresh()
        inner = renamed(inner, name, fresh, spare)
        name = fresh
    return ("for", name, over, ("when", claim, inner))


def when_when(knot, spare):
    claim, when = knot[1:]
    return ("when", ("and", claim, when[1]), when[2])


def times_times(knot, spare):
    k, times = knot[1:]
    return ("times", k * times[1], times[2])


def times_both(knot, spare):
    k, both = knot[1:]
    return ("both", ("times", k, both[1]), ("times", k, both[2]))


def swap_both(knot, spare):
    return ("both", knot[2], knot[1])


def group_both(knot, spare):
    both, last = knot[1:]
    return ("both", both[1], ("both", both[2], last))


def times_one(knot, spare):
    return knot[2] if knot[1] == 1 else None


def un_for(knot, spare):
    name, over, one = knot[1:]
    return over if one[1] == ("var", name) else None


def swap_for(knot, spare):
    name, over, within = knot[1:]
    other, more, inner = within[1:]
    if is_free(name, more):
        return None
    if is_free(other, over):
        fresh = spare.fresh()
        inner = renamed(inner, other, fresh, spare)
        other = fresh
    # Asked behind the other one's renaming, as a renamed one has the name no more.
    if name == other:
        name = spare.fresh()
    return ("for", other, more, ("for", name, over, inner))


RULES = {
    "atrow": ("at", 0, "row", at_row),
    "letin": ("let", 0, None, let_in),
    "forone": ("for", 0, "one", for_one),
    "forfor": ("for", 0, "for", for_for),
    "forboth": ("for", 0, "both", for_both),
    "fortimes": ("for", 0, "times", for_times),
    "forwhen": ("for", 0, "when", for_when),
    "bothin": ("for", 1, "both", both_in),
    "timesin": ("for", 1, "times", times_in),
    "whenboth": ("when", 1, "both", when_both),
    "whentimes": ("when", 1, "times", when_times),
    "whenfor": ("when", 1, "for", when_for),
    "whenwhen": ("when", 1, "when", when_when),
    "timestimes": ("times", 0, "times", times_times),
    "timesboth": ("times", 0, "both", times_both),
    "swapboth": ("both", 0, None, swap_both),
    "groupboth": ("both", 0, "both", group_both),
    "timesone": ("times", 0, None, times_one),
    "unfor": ("for", 1, "one", un_for),
    "swapfor": ("for", 1, "for", swap_for),
}
