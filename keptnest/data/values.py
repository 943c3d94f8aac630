"""Values: their order, and bags made, added and multiplied."""

RANKS = {"num": 0, "word": 1, "row": 2, "bag": 3}
ENDS = 0
GOES_ON = 1


def unfolded(whole, parts_of):
    # A stack of its own in the place of calls within calls: told values may lie deeper than calls may go.
    found = []
    waiting = [whole]
    while waiting:
        part = waiting.pop()
        if isinstance(part, tuple):
            waiting.extend(parts_of(part)[::-1])
        else:
            found.append(part)
    return found


def order_parts(value):
    parts = [RANKS[value[0]]]
    if value[0] in ("num", "word"):
        return parts + [value[1]]
    for pair in value[1]:
        # A row's pair has its field first and a bag's its value, and so are they compared.
        parts.extend([GOES_ON, pair[0], pair[1]])
    return parts + [ENDS]


def order_key(value):
    # Up to their first unlike places two keys tell the same, so what stands at these is of one sort:
    # plain lists of numbers and texts are compared, however deep the values are.
    return tuple(unfolded(value, order_parts))


def ahead(one, other):
    return order_key(one) < order_key(other)


def bag_of(pairs):
    values = {}
    counts = {}
    for value, count in pairs:
        key = order_key(value)
        values[key] = value
        counts[key] = counts.get(key, 0) + count
    return ("bag", tuple([(values[key], counts[key]) for key in sorted(counts) if counts[key] != 0]))


def added(one, other):
    return bag_of(one[1] + other[1])


def times(bag, k):
    if k == 0:
        return ("bag", ())
    return ("bag", tuple([(value, count * k) for value, count in bag[1]]))
