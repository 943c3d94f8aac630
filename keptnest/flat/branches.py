"""Branches: the parts of a shortened question, each told as what it goes through, asks and makes."""

from keptnest.data.signs import new_name
from keptnest.errors import NoFlat
from keptnest.turns.places import names_in
from keptnest.turns.shorter import shortened


def branches(question):
    return branches_of_short(shortened(question)[0])


def branches_of_short(question):
    # One name for all parts that end in a table: it stands in none of them.
    name = new_name(names_in(question))
    found = [branch_of(part, name) for part in joined(question, "both")]
    return [branch for branch in found if branch is not None]


def joined(whole, word):
    found = []
    waiting = [whole]
    while waiting:
        part = waiting.pop()
        if part[0] == word:
            waiting.extend([part[2], part[1]])
        else:
            found.append(part)
    return found


def branch_of(part, name):
    k = 1
    if part[0] == "times":
        k = part[1]
        part = part[2]
    gens = []
    while part[0] == "for":
        over = part[2]
        if over[0] == "none":
            return None
        gens.append((part[1], table_of(over)))
        part = part[3]
    claims = ()
    if part[0] == "when":
        claims = tuple(joined(part[1], "and"))
        part = part[2]
    if part[0] not in ("none", "one"):
        gens.append((name, table_of(part)))
        part = ("one", ("var", name))
    if part[0] == "none" or k == 0:
        return None
    return (k, tuple(gens), claims, part[1])


def table_of(question):
    if question[0] != "table":
        raise NoFlat("a for goes over what is neither a table nor none")
    return question[1]
