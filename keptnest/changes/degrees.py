"""How evenly a question goes with its tables, and differences of differences."""

from keptnest.asks.questions import knots, tables, under
from keptnest.asks.walks import folded
from keptnest.changes.differences import difference


def is_even(question):
    apart = [under(knot)[0] for knot in knots(question) if knot[0] in ("one", "at", "let")]
    return not any([tables(part) for part in apart])


def degree(question, names):
    def degree_of(part, below):
        word = part[0]
        if word == "table":
            return 1 if part[1] in names else 0
        if word == "both":
            return max(below)
        if word == "for":
            return sum(below)
        if word in ("times", "when", "let"):
            return below[-1]
        return 0
    return folded(question, degree_of)


def differences(question, rows, kinds, stock):
    told = [question]
    known = dict(stock)
    for names in rows:
        more = difference(told[-1], names, kinds, known)
        if more[0] == "none":
            break
        told.append(more)
        known.update(kinds_of_changes(names, stock))
    return told


def kinds_of_changes(names, stock):
    return dict([(new, stock[old]) for old, new in names.items() if old in stock])
