"""Steps of plans: which there are of a branch, what each needs to be done ahead of it, and how it is done."""

from keptnest.asks.answers import answer
from keptnest.asks.questions import free
from keptnest.asks.walks import bound
from keptnest.data.values import is_whole


def last_gens(branch):
    # Of gens of one name the last is meant in claims and row.
    return dict([(gen[0], number) for number, gen in enumerate(branch[1])])


def gens_named(branch, question):
    # A name of none of the gens is told as one that is never gone through.
    numbers = last_gens(branch)
    return [numbers.get(name, -1) for name in free(question)]


def is_step(branch, step):
    word = step[0]
    numbers = step[1:]
    if word == "go":
        return numbers_fit(numbers, (len(branch[1]),))
    if word == "ask":
        return numbers_fit(numbers, (len(branch[2]),))
    if word == "seek":
        return numbers_fit(numbers, (len(branch[1]), len(branch[2]))) and sought(branch, step) is not None
    return False


def numbers_fit(numbers, bounds):
    if len(numbers) != len(bounds):
        return False
    return all([is_whole(number) and 0 <= number < most for number, most in zip(numbers, bounds)])


def sought(branch, step):
    # The field by which rows are sought and the question that it is to be the same as, or None.
    gen, claim = step[1:]
    asked = branch[2][claim]
    if asked[0] != "same":
        return None
    for one, other in ((asked[1], asked[2]), (asked[2], asked[1])):
        if one[0] == "at" and one[2][0] == "var" and last_gens(branch).get(one[2][1]) == gen:
            return (one[1], other)
    return None


def needed(branch, step):
    # The gens that are to be gone through ahead of the step.
    if step[0] == "go":
        return []
    if step[0] == "ask":
        return gens_named(branch, branch[2][step[1]])
    return gens_named(branch, sought(branch, step)[1])


def claims_settled(step):
    return [] if step[0] == "go" else [step[-1]]


def gens_gone(step):
    return [] if step[0] == "ask" else [step[1]]


def all_in(numbers, others):
    return all([number in others for number in numbers])


def begun():
    # What was gone through so far: the variables' values, the product of counts, and the rows with their tables.
    return [({}, 1, ())]


def done(branch, step, states, store):
    if step[0] == "ask":
        claim = branch[2][step[1]]
        return [state for state in states if answer(claim, state[0], store)]
    rows_of = rows_to_seek(branch, step, store) if step[0] == "seek" else rows_to_go(branch, step, store)
    name, table = branch[1][step[1]]
    binds = last_gens(branch)[name] == step[1]
    found = []
    for values, product, tokens in states:
        for row, count in rows_of(values):
            more = bound(values, name, row) if binds else values
            found.append((more, product * count, tokens + ((table, row),)))
    return found


def rows_to_go(branch, step, store):
    rows = store[branch[1][step[1]][1]][1]
    return lambda values: rows


def rows_to_seek(branch, step, store):
    field, question = sought(branch, step)
    groups = {}
    for row, count in store[branch[1][step[1]][1]][1]:
        groups.setdefault(dict(row[1])[field], []).append((row, count))
    return lambda values: groups.get(answer(question, values, store), [])


def next_steps(branch, gone, gen):
    # Each way to go through a gen behind those that are gone through already.
    ways = [("go", gen)] + [("seek", gen, claim) for claim in range(len(branch[2]))]
    return [way for way in ways if is_step(branch, way) and all_in(needed(branch, way), gone)]


def asks_behind(branch, gone, step):
    # The asks that a step first lets be done, each as soon as it may be.
    behind = list(gone) + gens_gone(step)
    found = []
    for claim in range(len(branch[2])):
        named = gens_named(branch, branch[2][claim])
        if all_in(named, behind) and not all_in(named, gone) and claim not in claims_settled(step):
            found.append(("ask", claim))
    return found


def asks_at_first(branch):
    return [("ask", claim) for claim, asked in enumerate(branch[2]) if not free(asked)]


def plan_in_order(branch):
    plan = asks_at_first(branch)
    for gen in range(len(branch[1])):
        gone = list(range(gen))
        # Where there is a seek it stands last, and it goes through no more rows than the go.
        way = next_steps(branch, gone, gen)[-1]
        plan.append(way)
        plan.extend(asks_behind(branch, gone, way))
    return plan
