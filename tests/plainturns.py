"""What the document tells of turnings, told a second time and without the program."""

import itertools

from plainly import parts_below, plain_free
from samples import TAKEN_WORDS

SHORT = (
    "atrow letin forone forfor forboth fortimes forwhen bothin timesin whenboth whentimes whenfor whenwhen timestimes "
    "timesboth"
).split()
LONG = "swapboth groupboth timesone unfor swapfor".split()
CLAIMS = ("same", "under", "and", "or", "not")


def plain_texts(thing):
    """All texts in tuples within tuples."""
    if isinstance(thing, tuple):
        return set().union(*(plain_texts(part) for part in thing))
    return {thing} if isinstance(thing, str) else set()


def first_names(*things):
    """A function that tells the first name that stands in none of these things, and takes it."""
    taken = set()

    def fresh():
        taken.update(TAKEN_WORDS, *map(plain_texts, things))
        for length in itertools.count(1):
            for letters in itertools.product("abcdefghijklmnopqrstuvwxyz", repeat=length):
                if "".join(letters) not in taken:
                    taken.add("".join(letters))
                    return "".join(letters)
    return fresh


def plain_with(question, parts):
    if question[0] == "row":
        return ("row", tuple((field, part) for (field, old), part in zip(question[1], parts)))
    return question[:len(question) - len(parts)] + tuple(parts)


def plain_put(question, name, other, fresh):
    """The question with other for each free name, bindings renamed where a variable is really brought under them."""
    word, *rest = question
    if word == "var":
        return other if rest[0] == name else question
    if word not in ("for", "let"):
        return plain_with(question, [plain_put(part, name, other, fresh) for part in parts_below(question)])
    bound, first, inner = rest
    brought = bound != name and name in plain_free(inner)
    if brought and bound in plain_free(other):
        new = fresh()
        inner = plain_put(inner, bound, ("var", new), fresh)
        bound = new
    first = plain_put(first, name, other, fresh)
    return (word, bound, first, plain_put(inner, name, other, fresh) if brought else inner)


def plain_put_in(question, name, other):
    return plain_put(question, name, other, first_names(question, other, name))


def plain_at(question, path):
    for step in path:
        parts = parts_below(question)
        if not 0 <= step < len(parts):
            return None
        question = parts[step]
    return question


def plain_paths(question):
    """Pairs (path, knot) of all knots, each ahead of those within."""
    found = [((), question)]
    for place, part in enumerate(parts_below(question)):
        found += [((place,) + path, knot) for path, knot in plain_paths(part)]
    return found


def plain_turned(question, path, rule):
    """The turned question, or None."""
    knot = plain_at(question, path)
    if knot is None or knot[0] in CLAIMS:
        return None
    told = plain_rule(rule, knot, first_names(question))
    return None if told is None else put_at(question, path, told)


def put_at(question, path, told):
    if not path:
        return told
    parts = list(parts_below(question))
    parts[path[0]] = put_at(parts[path[0]], path[1:], told)
    return plain_with(question, parts)


def plain_rule(rule, knot, fresh):
    match rule, knot:
        case "atrow", ("at", f, ("row", parts)):
            return dict(parts).get(f)
        case "letin", ("let", x, Q, R):
            return plain_put(R, x, Q, fresh)
        case "forone", ("for", x, ("one", Q), R):
            return ("let", x, Q, R)
        case "forfor", ("for", y, ("for", x, Q, R), S):
            x, R = renamed_where(x != y and x in plain_free(S), x, R, fresh)
            return ("for", x, Q, ("for", y, R, S))
        case "forboth", ("for", x, ("both", P, Q), R):
            return ("both", ("for", x, P, R), ("for", x, Q, R))
        case ("fortimes", ("for", x, ("times", k, Q), R)) | ("timesin", ("for", x, Q, ("times", k, R))):
            return ("times", k, ("for", x, Q, R))
        case "forwhen", ("for", x, ("when", T, Q), R):
            return ("when", T, ("for", x, Q, R))
        case "bothin", ("for", x, Q, ("both", R, S)):
            return ("both", ("for", x, Q, R), ("for", x, Q, S))
        case "whenboth", ("when", T, ("both", P, Q)):
            return ("both", ("when", T, P), ("when", T, Q))
        case "whentimes", ("when", T, ("times", k, Q)):
            return ("times", k, ("when", T, Q))
        case "whenfor", ("when", T, ("for", x, Q, R)):
            x, R = renamed_where(x in plain_free(T), x, R, fresh)
            return ("for", x, Q, ("when", T, R))
        case "whenwhen", ("when", T, ("when", U, Q)):
            return ("when", ("and", T, U), Q)
        case "timestimes", ("times", k, ("times", l, Q)):
            return ("times", k * l, Q)
        case "timesboth", ("times", k, ("both", P, Q)):
            return ("both", ("times", k, P), ("times", k, Q))
        case "swapboth", ("both", P, Q):
            return ("both", Q, P)
        case "groupboth", ("both", ("both", P, Q), R):
            return ("both", P, ("both", Q, R))
        case "timesone", ("times", 1, Q):
            return Q
        case "unfor", ("for", x, Q, ("one", ("var", y))) if x == y:
            return Q
        case "swapfor", ("for", x, P, ("for", y, Q, R)) if x not in plain_free(Q):
            y, R = renamed_where(y in plain_free(P), y, R, fresh)
            return ("for", y, Q, ("for", fresh() if x == y else x, P, R))
    return None


def renamed_where(so, name, inner, fresh):
    if not so:
        return name, inner
    new = fresh()
    return new, plain_put(inner, name, ("var", new), fresh)


def is_short(question):
    return not [rule for path, knot in plain_paths(question) for rule in SHORT
                if plain_rule(rule, knot, first_names(knot)) is not None]


def branch_question(branch):
    """A question that is answered with the branch's answer."""
    k, gens, claims, row = branch
    question = ("one", row)
    for claim in claims[::-1]:
        question = ("when", claim, question)
    for name, table in gens[::-1]:
        question = ("for", name, ("table", table), question)
    return ("times", k, question)
