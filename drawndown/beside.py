"""The rules beside one another: how many steps their runs have, and where two runs go together."""

from drawndown.lots import has_ended
from drawndown.rules import RULES, run, step, want_rule
from drawndown.wholes import MOST_SIZE, tuples_between, want_number, want_size

MOST_NUMBER = 8


def many_steps(rule, lot):
    """How many steps the run of the lot by the rule has."""
    return len(run(rule, lot)) - 1


def by_steps(lot):
    """The list of (name, steps) for all rules, those with fewer steps ahead, of like many the lesser name."""
    found = sorted([(many_steps(rule, lot), rule) for rule in RULES])
    return [(rule, steps) for steps, rule in found]


def common_end(one, other, lot):
    """How many lots, from the end back, the runs by the one and the other rule have in common but for their order."""
    want_rule(one)
    want_rule(other)
    many = 0
    for left, right in zip(run(one, lot)[::-1], run(other, lot)[::-1]):
        if sorted(left) != sorted(right):
            break
        many += 1
    return many


def most_steps(rule, size, number):
    """The most steps of all lots of this size with no number above this one, and the rising list of those lots."""
    want_rule(rule)
    want_size(size, MOST_SIZE)
    want_number(number, 1, MOST_NUMBER)
    steps = steps_of_all(rule, size, number)
    most = max(steps.values())
    return most, sorted([lot for lot in steps if steps[lot] == most])


def steps_of_all(rule, size, most):
    """The dict that has, of all lots of this size with no number above the most one, how many steps their runs have."""
    steps = {}
    # The first tuple has noughts alone and is no lot.
    for lot in tuples_between(size, 0, most)[1:]:
        # No number grows in a step, so these are lots of the same kind: each is drawn down only once.
        path = [lot]
        while path[-1] not in steps and not has_ended(path[-1]):
            path.append(step(rule, path[-1]))
        many = steps.get(path[-1], 0)
        for behind in path[::-1]:
            steps[behind] = many
            many += 1
    return steps
