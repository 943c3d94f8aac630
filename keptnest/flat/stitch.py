"""Flat questions, one for each branch of a question and of the bags within, and their answers stitched together."""

from keptnest.asks.questions import with_under
from keptnest.asks.walks import folded
from keptnest.data.signs import is_name, text_behind
from keptnest.data.values import bag_of
from keptnest.flat.branches import branches_of_short
from keptnest.turns.shorter import shortened

BAG_WORDS = ("table", "none", "one", "both", "times", "for", "when")
FIRST_GEN = "aa"
EMPTY_ROW = ("row", ())
EMPTY_BAG = ("bag", ())


class Limb:
    # A branch together with all that stands around it.
    def __init__(self, address, factor, gens, claims, meanings, row):
        self.address = address
        self.factor = factor
        self.gens = gens
        self.claims = claims
        self.meanings = meanings
        self.row = row
        self.bags = bags_in(row)


def flat(question):
    return [(limb.address, flat_question(limb)) for limb in limbs_of(question)]


def limbs_of(question):
    found = []
    waiting = [(shortened(question)[0], Limb((), 1, [], [], {}, EMPTY_ROW), ())]
    while waiting:
        bag, around, path = waiting.pop()
        for number, branch in enumerate(branches_of_short(bag)):
            limb = grown(around, path + (number,), branch)
            found.append(limb)
            waiting.extend([(inner, limb, (fields,)) for fields, inner in limb.bags])
    return sorted(found, key=lambda limb: limb.address)


def grown(around, path, branch):
    k, gens, claims, row = branch
    all_gens = list(around.gens)
    meanings = dict(around.meanings)
    for name, table in gens:
        # Of gens of one name the last is meant by all that comes behind.
        meanings[name] = gen_name(all_gens)
        all_gens.append((meanings[name], table))
    all_claims = around.claims + [renamed(claim, meanings) for claim in claims]
    return Limb(around.address + path, around.factor * k, all_gens, all_claims, meanings, row)


def gen_name(gens):
    name = text_behind(gens[-1][0]) if gens else FIRST_GEN
    while not is_name(name):
        name = text_behind(name)
    return name


def bags_in(row):
    found = []
    waiting = [((), row)]
    while waiting:
        fields, part = waiting.pop()
        if part[0] in BAG_WORDS:
            found.append((fields, part))
        if part[0] == "row":
            waiting.extend([(fields + (field,), inner) for field, inner in part[1]])
    return found


def renamed(question, meanings):
    # What binds a name in a short question is a bag: a name that has no meaning here goes with the bag it stands in.
    def told_of(part, below):
        if part[0] in BAG_WORDS:
            return EMPTY_ROW
        if part[0] == "var":
            return ("var", meanings.get(part[1], part[1]))
        return with_under(part, below)
    return folded(question, told_of)


def flat_question(limb):
    key = ("row", tuple([(name, ("var", name)) for name, table in limb.gens]))
    val = renamed(limb.row, limb.meanings)
    question = ("times", limb.factor, ("one", ("row", (("key", key), ("val", val)))))
    if limb.claims:
        question = ("when", all_of(limb.claims), question)
    for name, table in reversed(limb.gens):
        question = ("for", name, ("table", table), question)
    return question


def all_of(claims):
    whole = claims[0]
    for claim in claims[1:]:
        whole = ("and", whole, claim)
    return whole


def stitched(question, answers):
    limbs = limbs_of(question)
    many_gens = dict([(limb.address, len(limb.gens)) for limb in limbs])
    built = {}
    for limb in reversed(limbs):
        # Those below a limb have longer addresses that begin with its own, and so are built ahead of it.
        rows = answers.get(limb.address, EMPTY_BAG)[1]
        built[limb.address] = built_rows(limb, rows, many_gens.get(limb.address[:-2], 0), built)
    return bag_of(pairs_below((), (), built))


def built_rows(limb, rows, many_around, built):
    # Told by the key of the row around, to be found from there.
    found = {}
    for row, count in rows:
        key, val = [part for field, part in row[1]]
        for fields, inner in limb.bags:
            pairs = pairs_below(limb.address + (fields,), key[1], built)
            val = with_bag(val, fields, bag_of([(value, many // count) for value, many in pairs]))
        found.setdefault(key[1][:many_around], []).append((val, count))
    return found


def pairs_below(address, key, built):
    pairs = []
    number = 0
    while address + (number,) in built:
        pairs.extend(built[address + (number,)].get(key, []))
        number += 1
    return pairs


def with_bag(value, fields, bag):
    rows = []
    for field in fields:
        rows.append(value)
        value = dict(value[1])[field]
    whole = bag
    for row, field in zip(rows[::-1], fields[::-1]):
        whole = ("row", tuple([(name, whole if name == field else part) for name, part in row[1]]))
    return whole
