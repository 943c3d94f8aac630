"""Sums of products: of which rows, gone through together, each count comes."""

from keptnest.asks.answers import answer
from keptnest.plans.steps import begun, done, plan_in_order


def sums(branch, store):
    often = {}
    for values, product, tokens in all_states(branch, store):
        counts = often.setdefault(answer(branch[3], values, store), {})
        key = tuple(sorted(tokens))
        counts[key] = counts.get(key, 0) + branch[0]
    return dict([(value, rising_pairs(counts)) for value, counts in often.items()])


def all_states(branch, store):
    states = begun()
    for step in plan_in_order(branch):
        states = done(branch, step, states, store)
    return states


def rising_pairs(counts):
    return tuple([(tokens, counts[tokens]) for tokens in sorted(counts) if counts[tokens] != 0])


def worth(pairs, store):
    counts = dict([(table, dict(bag[1])) for table, bag in store.items()])
    total = 0
    for tokens, factor in pairs:
        product = factor
        for table, value in tokens:
            product *= counts.get(table, {}).get(value, 0)
        total += product
    return total
