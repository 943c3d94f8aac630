"""A place within a question that is moved about, and names that are still to be had."""

from keptnest.asks.questions import under, with_under
from keptnest.data.signs import new_name
from keptnest.data.values import unfolded


class Place:
    # Moved from knot to knot, so that many turnings one behind the other need not begin at the top each time.
    def __init__(self, question):
        self.line = [question]
        self.path = ()
        self.anew = [False]
        self.around = []

    def knot(self):
        return self.line[-1]

    def go(self, path):
        shared = many_shared(path, self.path)
        while len(self.path) > shared:
            self.up()
        for step in path[shared:]:
            if not self.down(step):
                return False
        return True

    def down(self, step):
        parts = under(self.line[-1])
        if not 0 <= step < len(parts):
            return False
        self.line.append(parts[step])
        self.path = self.path + (step,)
        self.anew.append(False)
        return True

    def up(self):
        part = self.line.pop()
        step = self.path[-1]
        self.path = self.path[:-1]
        if len(self.around) > len(self.path):
            self.around.pop()
        if self.anew.pop():
            self.put(with_part(self.line[-1], step, part))

    def put(self, knot):
        self.line[-1] = knot
        self.anew[-1] = True

    def whole(self):
        self.go(())
        return self.line[0]

    def names(self):
        # What stands around the knot is gathered once for all that is done at and below it, as it stays the while.
        while len(self.around) < len(self.path):
            level = len(self.around)
            names = dict(self.around[-1]) if self.around else {}
            names.update(names_in(with_part(self.line[level], self.path[level], ())))
            self.around.append(names)
        names = names_in(self.line[-1])
        if self.around:
            names.update(self.around[-1])
        return names


def many_shared(one, other):
    # By halves, as paths may be long and mostly share all but their ends.
    low = 0
    high = min(len(one), len(other))
    while low < high:
        middle = (low + high + 1) // 2
        if one[low:middle] == other[low:middle]:
            low = middle
        else:
            high = middle - 1
    return low


def with_part(question, step, part):
    parts = list(under(question))
    parts[step] = part
    return with_under(question, parts)


class Spare:
    # What is taken is gathered only where a name is asked for, as most turnings rename nothing.
    def __init__(self, place, more):
        self.place = place
        self.more = more
        self.taken = None

    def fresh(self):
        if self.taken is None:
            self.taken = self.place.names()
            self.taken.update(self.more)
        name = new_name(self.taken)
        self.taken[name] = True
        return name


def names_in(question):
    # Whatever a text in it is, a variable, a table, a field or a word: none of them is a new name.
    return dict([(part, True) for part in unfolded(question, lambda knot: knot) if isinstance(part, str)])
