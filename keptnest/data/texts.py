"""Values written as texts, and read from them."""

from keptnest.data.signs import Reader
from keptnest.data.values import bag_of, unfolded

DEEPEST = 12


def shown(value):
    return "".join(unfolded(value, written_parts))


def written_parts(value):
    if value[0] == "num":
        return [str(value[1])]
    if value[0] == "word":
        return ["'" + value[1]]
    if value[0] == "row":
        return listed("<", [[field + ": ", part] for field, part in value[1]], ">")
    return listed("{", [[part, count_shown(count)] for part, count in value[1]], "}")


def count_shown(count):
    return "" if count == 1 else f" * {count}"


def listed(opening, groups, closing):
    parts = [opening]
    for place, group in enumerate(groups):
        if place > 0:
            parts.append(", ")
        parts.extend(group)
    return parts + [closing]


def read(text):
    reader = Reader(text)
    value = read_value(reader, 1)
    if not reader.at_end():
        reader.refuse("the value ends")
    return value


def read_value(reader, depth):
    # Refused on the way down, so that no text leads to deeper calls than a value has.
    if depth > DEEPEST:
        reader.refuse("one knot too many within others begins")
    if reader.takes("'"):
        return ("word", reader.name())
    if reader.takes("<"):
        return read_row(reader, depth)
    if reader.takes("{"):
        return bag_of(reader.parts("}", lambda: read_counted(reader, depth + 1)))
    return ("num", reader.number())


def read_row(reader, depth):
    values = {}
    for field, value in reader.parts(">", lambda: read_field(reader, depth + 1)):
        if field in values:
            reader.refuse(f"a row that has {field} twice ends")
        values[field] = value
    return ("row", tuple([(field, values[field]) for field in sorted(values)]))


def read_field(reader, depth):
    field = reader.name()
    reader.needs(": ")
    return (field, read_value(reader, depth))


def read_counted(reader, depth):
    return (read_value(reader, depth), read_count(reader))


def read_count(reader):
    if not reader.takes(" * "):
        return 1
    count = reader.number()
    if count in (0, 1):
        reader.refuse("a count that is not told ends")
    return count
