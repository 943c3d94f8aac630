"""Plans: in which order a branch goes through its rows and asks its claims, and which one looks at the fewest rows."""

from keptnest.asks.answers import answer
from keptnest.data.values import bag_of
from keptnest.errors import NoPlan
from keptnest.plans.steps import all_in, asks_at_first, asks_behind, begun, claims_settled, done
from keptnest.plans.steps import gens_gone, gens_named, is_step, needed, next_steps


def fits(branch, plan):
    gone = []
    settled = []
    for step in plan:
        if not is_step(branch, step) or not all_in(needed(branch, step), gone):
            return False
        gone.extend(gens_gone(step))
        settled.extend(claims_settled(step))
    return sorted(gone) == list(range(len(branch[1]))) and sorted(settled) == list(range(len(branch[2])))


def by_plan(branch, plan, store):
    if not fits(branch, plan):
        raise NoPlan("the plan does not fit the branch")
    states = begun()
    looked = 0
    for step in plan:
        states = done(branch, step, states, store)
        # Each row that a go or a seek looks at leads to one state.
        looked += len(states) * len(gens_gone(step))
    pairs = [(answer(branch[3], values, store), branch[0] * product) for values, product, tokens in states]
    return (bag_of(pairs), looked)


def best(branch, store):
    # To ask as soon as may be costs nothing, leaves the fewest rows and is told ahead of all other steps: so it is
    # only to be found in which order, and how, the gens are gone through.
    survey = Survey(branch, store)
    everything = tuple(range(len(branch[1])))
    least = {everything: 0}
    ways = {}
    for gone in sorted(subsets(everything), key=len, reverse=True)[1:]:
        choices = []
        for gen in [gen for gen in everything if gen not in gone]:
            behind = with_gen(gone, gen)
            for way in next_steps(branch, gone, gen):
                choices.append((survey.looked(gone, way) + least[behind], way))
        fewest = min(choices)
        least[gone] = fewest[0]
        ways[gone] = fewest[1]
    return plan_of(branch, ways)


def subsets(numbers):
    found = [()]
    for number in numbers:
        found = found + [subset + (number,) for subset in found]
    return found


def with_gen(gone, gen):
    return tuple(sorted(gone + (gen,)))


def plan_of(branch, ways):
    plan = asks_at_first(branch)
    gone = ()
    while gone in ways:
        way = ways[gone]
        plan.append(way)
        plan.extend(asks_behind(branch, gone, way))
        gone = with_gen(gone, way[1])
    return tuple(plan)


class Survey:
    # How many ways there are to go through some gens, all claims asked that may be. Gens that no claim links are gone
    # through apart, as the one's ways are then just multiplied with the other's.
    def __init__(self, branch, store):
        self.branch = branch
        self.rows = store
        self.named = [gens_named(branch, claim) for claim in branch[2]]
        self.seen = {}
        self.starts = self.states_behind(asks_at_first(branch), begun())

    def states_behind(self, steps, states):
        for step in steps:
            states = done(self.branch, step, states, self.rows)
        return states

    def states(self, gens):
        if gens == ():
            return begun()
        if gens not in self.seen:
            few, gen = min([(self.many(without(gens, gen)), gen) for gen in gens])
            rest = without(gens, gen)
            way = next_steps(self.branch, rest, gen)[-1]
            self.seen[gens] = self.states_behind([way] + asks_behind(self.branch, rest, way), self.states(rest))
        return self.seen[gens]

    def many(self, gens):
        product = len(self.starts)
        for group in self.linked(gens):
            product *= len(self.states(group))
        return product

    def linked(self, gens):
        groups = [(gen,) for gen in gens]
        for named in self.named:
            if all_in(named, gens):
                touched = [group for group in groups if any([gen in named for gen in group])]
                groups = [group for group in groups if group not in touched] + [joined(touched)]
        return [group for group in groups if group != ()]

    def looked(self, gone, way):
        named = needed(self.branch, way)
        around = joined([group for group in self.linked(gone) if any([gen in named for gen in group])])
        apart = tuple([gen for gen in gone if gen not in around])
        return self.many(apart) * len(done(self.branch, way, self.states(around), self.rows))


def joined(groups):
    return tuple(sorted(sum([list(group) for group in groups], start=[])))


def without(gens, gen):
    return tuple([other for other in gens if other != gen])
