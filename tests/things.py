"""What the tests share: things of every kind, and the document's words said a second time."""

import inspect
import itertools
import random
import unittest

GREAT = 10 ** 100 - 1

PLAIN = [0, 1, -1, 2, 7, GREAT, -GREAT, True, False, None, "", "12:0:5", "(1, 2)", "\t\n~ "]

EMPTY = [[], (), {}]

# Kinds that nothing is told of, but that a refusal is due of all the same.
OTHER_KINDS = [
    1.5, 2.0, (2.0, 3), (1, 2.5, 3), ((1.0, 0), (0, 1)), 1j, b"ab", (b"a", 1), bytearray(b"ab"), {1, 2},
    frozenset([1, 2]), range(3), object(), len, int, ((1, 2), range(2)), ({1, 2}, (3, 4)), iter((1, 2)),
]


def wrapped(thing):
    """The thing within each kind that may hold one, alone and beside itself."""
    return [[thing], (thing,), [thing, thing], (thing, thing), (thing, thing, thing), {"a": thing}, {0: thing, 1: thing}]


def nested(deep):
    """Chains of all kinds of things within one another, so many deep."""
    things = list(PLAIN) + list(EMPTY)
    chosen = list(things)
    for level in range(deep):
        outer = [box for thing in chosen for box in wrapped(thing)]
        things += outer
        # All of them would be too many: each level goes on from a spread of the last one.
        chosen = outer[level::9]
    return things


def grown(dice, deep):
    """One thing of mixed kinds, at most so many deep."""
    kind = dice.randrange(9) if deep > 0 else 0
    if kind < 3:
        return dice.choice(PLAIN + [dice.randrange(-3, 20)])
    parts = [grown(dice, deep - 1) for place in range(dice.randrange(4))]
    if kind < 6:
        return tuple(parts)
    if kind < 8:
        return parts
    return {place: part for place, part in enumerate(parts)}


def near(good):
    """Tuples like the good one, each off at one place or in its kind, some still good."""
    things = [list(good), good + good, good[:-1], good[1:], good[:1], (good,), [good], {"a": good}, repr(good)]
    things.append(dict(enumerate(good)))
    things += [good + (part,) for part in PLAIN + [good[0]]]
    for at in range(len(good)):
        inner = near(good[at]) if isinstance(good[at], tuple) else []
        for part in PLAIN + EMPTY + inner:
            things.append(good[:at] + (part,) + good[at + 1:])
    return things


def anything(*good):
    """Things of all kinds, those that are near to the good ones among them."""
    dice = random.Random(271)
    things = nested(5) + [grown(dice, 5) for count in range(3000)]
    for one in good:
        things += [one] + near(one)
    return things


def is_number_by_words(thing):
    return type(thing) is int


def is_lot_by_words(thing):
    if type(thing) is not tuple or len(thing) not in (2, 3, 4):
        return False
    return all(is_number_by_words(n) and n >= 0 for n in thing) and any(n != 0 for n in thing)


def is_tuple_by_words(thing, size):
    return type(thing) is tuple and len(thing) == size and all(is_number_by_words(n) for n in thing)


def is_table_by_words(thing):
    if type(thing) is not tuple or len(thing) not in (2, 3, 4):
        return False
    return all(is_tuple_by_words(line, len(thing)) for line in thing)


def one_number_by_words(table):
    """Over all orders of the columns, as point 6 says it."""
    whole = 0
    for order in itertools.permutations(range(len(table))):
        product = 1
        for line, column in zip(table, order):
            product *= line[column]
        odd = sum(1 for ahead, behind in itertools.combinations(order, 2) if ahead > behind) % 2
        whole += -product if odd else product
    return whole


def multiplied_by_words(one, other):
    size = range(len(one))
    return tuple(tuple(sum(one[i][k] * other[k][j] for k in size) for j in size) for i in size)


def like_places(size):
    return tuple(tuple(1 if line == column else 0 for column in range(size)) for line in range(size))


def some_table(dice, size, most):
    return tuple(tuple(dice.randint(-most, most) for column in range(size)) for line in range(size))


def some_fair_table(dice, size, most):
    """Lines put into some order and sign, between two tables with 1 at like places and 0 on one side."""
    places = range(size)
    low = tuple(tuple(dice.randint(-most, most) if j < i else int(i == j) for j in places) for i in places)
    high = tuple(tuple(dice.randint(-most, most) if j > i else int(i == j) for j in places) for i in places)
    order = dice.sample(list(places), size)
    mixed = tuple(tuple(dice.choice((1, -1)) if order[i] == j else 0 for j in places) for i in places)
    return multiplied_by_words(multiplied_by_words(low, mixed), high)


class Case(unittest.TestCase):
    """A test case that can tell a refusal's very class, and that nothing was changed."""

    def told(self, call, *handed):
        """What the call answers; asked twice it is the same, and what was handed in stays as it was."""
        ahead = repr(handed)
        answer = call(*handed)
        self.assertEqual(repr(call(*handed)), repr(answer))
        self.assertEqual(repr(handed), ahead)
        return answer

    def assert_told(self, wanted, call, *handed):
        # By repr, so that True is told from 1 and a list from a tuple.
        self.assertEqual(repr(self.told(call, *handed)), repr(wanted), (call.__name__, handed))

    def assert_refused(self, error, call, *handed):
        ahead = repr(handed)
        with self.assertRaises(error, msg=(call.__name__, handed)) as caught:
            call(*handed)
        self.assertIs(type(caught.exception), error)
        self.assertEqual(repr(handed), ahead)

    def assert_interface(self, call, *names):
        """That the call takes these arguments, by their places, and no others."""
        self.assertEqual(tuple(inspect.signature(call).parameters), names)
