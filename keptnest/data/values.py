"""Values: what they are, their order, and bags made, added and multiplied."""

from keptnest.data.signs import is_name

RANKS = {"num": 0, "word": 1, "row": 2, "bag": 3}
ENDS = 0
GOES_ON = 1


def unfolded(whole, parts_of):
    # A stack of its own in the place of calls within calls: told values may lie deeper than calls may go.
    found = []
    waiting = [whole]
    while waiting:
        part = waiting.pop()
        if isinstance(part, tuple):
            waiting.extend(parts_of(part)[::-1])
        else:
            found.append(part)
    return found


def order_parts(value):
    parts = [RANKS[value[0]]]
    if value[0] in ("num", "word"):
        return parts + [value[1]]
    for pair in value[1]:
        # A row's pair has its field first and a bag's its value, and so are they compared.
        parts.extend([GOES_ON, pair[0], pair[1]])
    return parts + [ENDS]


def order_key(value):
    # Up to their first unlike places two keys tell the same, so what stands at these is of one sort:
    # plain lists of numbers and texts are compared, however deep the values are.
    return tuple(unfolded(value, order_parts))


def ahead(one, other):
    return order_key(one) < order_key(other)


def bag_of(pairs):
    values = {}
    counts = {}
    for value, count in pairs:
        key = order_key(value)
        values[key] = value
        counts[key] = counts.get(key, 0) + count
    return ("bag", tuple([(values[key], counts[key]) for key in sorted(counts) if counts[key] != 0]))


def added(one, other):
    return bag_of(one[1] + other[1])


def times(bag, k):
    if k == 0:
        return ("bag", ())
    return ("bag", tuple([(value, count * k) for value, count in bag[1]]))


def is_value(thing):
    found = []
    waiting = [thing]
    while waiting:
        part = waiting.pop()
        if not has_form(part):
            return False
        if part[0] == "row":
            waiting.extend([value for field, value in part[1]])
        if part[0] == "bag":
            waiting.extend([value for value, count in part[1]])
            found.append(part)
    # Only now, as an order is told of values alone.
    return all([rises([order_key(value) for value, count in bag[1]]) for bag in found])


def has_form(thing):
    if not is_pair(thing):
        return False
    if thing[0] == "num":
        return is_whole(thing[1])
    if thing[0] == "word":
        return is_written_name(thing[1])
    if thing[0] not in ("row", "bag") or not has_pairs(thing[1]):
        return False
    if thing[0] == "bag":
        return all([is_whole(count) and count != 0 for value, count in thing[1]])
    fields = [field for field, value in thing[1]]
    return all([is_written_name(field) for field in fields]) and rises(fields)


def has_pairs(thing):
    return isinstance(thing, tuple) and all([is_pair(part) for part in thing])


def is_pair(thing):
    return isinstance(thing, tuple) and len(thing) == 2


def is_whole(thing):
    return isinstance(thing, int) and not isinstance(thing, bool)


def is_written_name(thing):
    return isinstance(thing, str) and is_name(thing)


def rises(keys):
    return all([one < other for one, other in zip(keys, keys[1:])])
