"""Questions gone through with a stack, as told ones may lie deeper than calls within calls may go."""

from keptnest.asks.questions import under


class Walk:
    def __init__(self):
        self.waiting = []
        self.found = []

    def later(self, step, question, around):
        self.waiting.append((step, question, around))

    def tell(self, result):
        self.found.append(result)

    def take(self, many):
        taken = [self.found.pop() for turn in range(many)]
        return taken[::-1]

    def run(self):
        while self.waiting:
            step, question, around = self.waiting.pop()
            step(self, question, around)
        return self.found.pop()


def folded(question, told_of):
    walk = Walk()
    walk.later(unfold, question, told_of)
    return walk.run()


def unfold(walk, question, told_of):
    walk.later(fold, question, told_of)
    for part in reversed(under(question)):
        walk.later(unfold, part, told_of)


def fold(walk, question, told_of):
    walk.tell(told_of(question, walk.take(len(under(question)))))


def bound(names, name, meaning):
    more = dict(names)
    more[name] = meaning
    return more
