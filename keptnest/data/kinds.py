"""Kinds: which values are of them, and how they are written and read."""

from keptnest.data.signs import Reader
from keptnest.data.texts import DEEPEST, listed
from keptnest.data.values import rises, unfolded


def fields_of(row):
    return [field for field, part in row[1]]


def is_of(value, kind):
    return fits(value, kind, lambda bag: [row for row, count in bag[1]])


def alike(one, other):
    return fits(one, other, lambda bag: [bag[1]])


def fits(whole, kind, rows_of):
    # A stack in the place of calls within calls, here and below: what is told may lie deeper than calls may go.
    waiting = [(whole, kind)]
    while waiting:
        part, wanted = waiting.pop()
        if part[0] != wanted[0]:
            return False
        if part[0] == "row":
            if fields_of(part) != fields_of(wanted):
                return False
            waiting.extend([(ours[1], theirs[1]) for ours, theirs in zip(part[1], wanted[1])])
        if part[0] == "bag":
            waiting.extend([(row, wanted[1]) for row in rows_of(part)])
    return True


def is_flat(kind):
    waiting = [kind]
    while waiting:
        part = waiting.pop()
        if part[0] == "bag":
            return False
        if part[0] == "row":
            waiting.extend([inner for field, inner in part[1]])
    return True


def kind_shown(kind):
    return "".join(unfolded(kind, shown_parts))


def shown_parts(kind):
    if kind[0] == "row":
        return listed("<", [[field + ": ", part] for field, part in kind[1]], ">")
    if kind[0] == "bag":
        return ["{", kind[1], "}"]
    return [kind[0]]


def kind_read(text):
    reader = Reader(text)
    kind = read_kind(reader, 1)
    if not reader.at_end():
        reader.refuse("the kind ends")
    return kind


def read_kind(reader, depth):
    if depth > DEEPEST:
        reader.refuse("one knot too many within a kind begins")
    if reader.takes("<"):
        return read_row_kind(reader, depth)
    if reader.takes("{"):
        inner = read_kind(reader, depth + 1)
        reader.needs("}")
        return ("bag", inner)
    if reader.takes("num"):
        return ("num",)
    reader.needs("word")
    return ("word",)


def read_row_kind(reader, depth):
    parts = reader.parts(">", lambda: read_field_kind(reader, depth + 1))
    if not rises([field for field, part in parts]):
        reader.refuse("a row whose fields do not rise ends")
    return ("row", tuple(parts))


def read_field_kind(reader, depth):
    field = reader.name()
    reader.needs(": ")
    return (field, read_kind(reader, depth))
