"""What the tests share: things of every kind, and the document's words said a second time."""

import inspect
import itertools
import random
import unittest

GREAT = 10 ** 100 - 1

RULES = ("next", "least", "all", "turn")

PLAIN = [0, 1, -1, 2, 7, GREAT, -GREAT, True, False, None, "", "12:0:5", "(1, 2)", "\t\n~ "]

EMPTY = [[], (), {}]

# Kinds that nothing is told of, but that a refusal is due of all the same.
OTHER_KINDS = [
    1.5, 2.0, (2.0, 3), (1, 2.5, 3), ((1.0, 0), (0, 1)), 1j, b"ab", (b"a", 1), bytearray(b"ab"), {1, 2},
    frozenset([1, 2]), range(3), object(), len, int, ((1, 2), range(2)), ({1, 2}, (3, 4)), iter((1, 2)),
]


def wrapped(thing):
    """The thing within each kind that may hold one, alone and beside itself."""
    boxes = [[thing], (thing,), [thing, thing], (thing, thing), (thing, thing, thing)]
    return boxes + [{"a": thing}, {0: thing, 1: thing}]


def nested(deep):
    """Chains of all kinds of things within one another, so many deep."""
    things = list(PLAIN) + list(EMPTY)
    chosen = list(things)
    for level in range(deep):
        outer = [box for thing in chosen for box in wrapped(thing)]
        things += outer
        # All of them would be too many: each level goes on from a spread of the last one.
        chosen = outer[level::9]
    return things


def grown(dice, deep):
    """One thing of mixed kinds, at most so many deep."""
    kind = dice.randrange(9) if deep > 0 else 0
    if kind < 3:
        return dice.choice(PLAIN + [dice.randrange(-3, 20)])
    parts = [grown(dice, deep - 1) for place in range(dice.randrange(4))]
    if kind < 6:
        return tuple(parts)
    if kind < 8:
        return parts
    return {place: part for place, part in enumerate(parts)}


def near(good):
    """Tuples like the good one, each off at one place or in its kind, some still good."""
    things = [list(good), good + good, good[:-1], good[1:], good[:1], (good,), [good], {"a": good}, repr(good)]
    things.append(dict(enumerate(good)))
    things += [good + (part,) for part in PLAIN + [good[0]]]
    for at in range(len(good)):
        inner = near(good[at]) if isinstance(good[at], tuple) else []
        for part in PLAIN + EMPTY + inner:
            things.append(good[:at] + (part,) + good[at + 1:])
    return things


def anything(*good):
    """Things of all kinds, those that are near to the good ones among them."""
    dice = random.Random(271)
    things = nested(5) + [grown(dice, 5) for count in range(3000)]
    for one in good:
        things += [one] + near(one)
    return things


def is_number_by_words(thing):
    return type(thing) is int


def is_lot_by_words(thing):
    if type(thing) is not tuple or len(thing) not in (2, 3, 4):
        return False
    return all(is_number_by_words(n) and n >= 0 for n in thing) and any(n != 0 for n in thing)


def is_tuple_by_words(thing, size):
    return type(thing) is tuple and len(thing) == size and all(is_number_by_words(n) for n in thing)


def is_table_by_words(thing):
    if type(thing) is not tuple or len(thing) not in (2, 3, 4):
        return False
    return all(is_tuple_by_words(line, len(thing)) for line in thing)


def one_number_by_words(table):
    """Over all orders of the columns, as point 6 says it."""
    whole = 0
    for order in itertools.permutations(range(len(table))):
        product = 1
        for line, column in zip(table, order):
            product *= line[column]
        odd = sum(1 for ahead, behind in itertools.combinations(order, 2) if ahead > behind) % 2
        whole += -product if odd else product
    return whole


def multiplied_by_words(one, other):
    size = range(len(one))
    return tuple(tuple(sum(one[i][k] * other[k][j] for k in size) for j in size) for i in size)


def like_places(size):
    return tuple(tuple(1 if line == column else 0 for column in range(size)) for line in range(size))


def some_table(dice, size, most):
    return tuple(tuple(dice.randint(-most, most) for column in range(size)) for line in range(size))


def some_fair_table(dice, size, most):
    """Lines put into some order and sign, between two tables with 1 at like places and 0 on one side."""
    places = range(size)
    low = tuple(tuple(dice.randint(-most, most) if j < i else int(i == j) for j in places) for i in places)
    high = tuple(tuple(dice.randint(-most, most) if j > i else int(i == j) for j in places) for i in places)
    order = dice.sample(list(places), size)
    mixed = tuple(tuple(dice.choice((1, -1)) if order[i] == j else 0 for j in places) for i in places)
    return multiplied_by_words(multiplied_by_words(low, mixed), high)


def small_lots(**most):
    """All lots with no number above the one told for their size: small_lots(two=9, three=5)."""
    for size, name in ((2, "two"), (3, "three"), (4, "four")):
        for lot in itertools.product(range(most.get(name, -1) + 1), repeat=size):
            if any(lot):
                yield lot


def some_lot(dice, size, most):
    """A lot with some common, now and then with noughts or like numbers in it."""
    shared = dice.choice((1, 1, 2, 6, 35))
    numbers = [shared * dice.randint(1, max(1, most // shared)) for place in range(size)]
    if dice.randrange(4) == 0:
        numbers[dice.randrange(size)] = dice.choice(numbers)
    if dice.randrange(4) == 0:
        numbers[dice.randrange(size)] = 0
    return tuple(numbers) if any(numbers) else (0,) * (size - 1) + (shared,)


def some_lots(seed, many, *most):
    """So many lots of each size with numbers up to each of these."""
    dice = random.Random(seed)
    return [some_lot(dice, size, bound) for bound in most for size in (2, 3, 4) for count in range(many)]


def slow_lot(size, figures):
    """A lot of numbers that grow slowly, each from two that lie well behind it: its runs are long."""
    numbers = [1] * size
    while len(str(numbers[-1])) < figures:
        numbers = numbers[1:] + [numbers[0] + numbers[1]]
    return tuple(numbers)


def division_by_words(rule, lot):
    """The place of the number that divides, and the quotient of each place whose number is divided."""
    falling = sorted(range(len(lot)), key=lambda at: (-lot[at], at))
    rising = sorted([at for at in falling if lot[at] != 0], key=lambda at: (lot[at], at))
    greatest = falling[0]
    if rule == "next":
        by, divided = falling[1], [greatest]
    elif rule == "least":
        by, divided = [at for at in rising if at != greatest][0], [greatest]
    elif rule == "all":
        by, divided = rising[0], [at for at in falling if at != rising[0]]
    elif rule == "turn":
        by, divided = 0, [at for at in falling if at != 0 and lot[0] != 0]
    return by, {at: lot[at] // lot[by] for at in divided}


def step_by_words(rule, lot):
    by, quotients = division_by_words(rule, lot)
    left = [lot[at] % lot[by] if at in quotients else lot[at] for at in range(len(lot))]
    if rule == "turn":
        left.append(left.pop(0))
    return tuple(left)


def table_by_words(rule, lot):
    """Place by place, as point 9 says it."""
    size = len(lot)
    by, quotients = division_by_words(rule, lot)
    table = [[0] * size for line in range(size)]
    if rule == "turn":
        table[0][size - 1] = 1
        for k in range(1, size):
            table[k][k - 1] = 1
            table[k][size - 1] = quotients.get(k, 0)
    else:
        for k in range(size):
            table[k][k] = 1
        for k, quotient in quotients.items():
            table[k][by] = quotient
    return tuple(tuple(line) for line in table)


def has_ended_by_words(lot):
    return lot.count(0) == len(lot) - 1


def run_by_words(rule, lot):
    lots = [lot]
    while not has_ended_by_words(lot):
        lot = step_by_words(rule, lot)
        lots.append(lot)
    return lots


def lines_by_words(rule, lot):
    """The lines of the run's product turned back, and the last lot.

    They are drawn down along with the lot, from 1 at like places on, so nothing is multiplied or turned back."""
    lines = [list(line) for line in like_places(len(lot))]
    while not has_ended_by_words(lot):
        by, quotients = division_by_words(rule, lot)
        for at, quotient in quotients.items():
            lines[at] = [one - quotient * other for one, other in zip(lines[at], lines[by])]
        if rule == "turn":
            lines.append(lines.pop(0))
        lot = step_by_words(rule, lot)
    return [tuple(line) for line in lines], lot


def no_lots():
    """Things of all kinds that are no lots."""
    good = [(12, 5), (12, 0, 5), (4, 6, 8, 10), (GREAT, GREAT - 1)]
    return [thing for thing in anything(*good) if not is_lot_by_words(thing)] + OTHER_KINDS


def no_rules():
    """Things of all kinds that are no names of rules, and some that nearly are."""
    names = [sign + name for name in RULES for sign in " \tn"] + [name + sign for name in RULES for sign in " \nx:"]
    names += [name[:-1] for name in RULES] + [name.upper() for name in RULES] + [name.title() for name in RULES]
    names += ["next all", "first", "greatest", "turns", "step", "0"]
    boxed = [box for name in RULES for box in ([name], (name,), {name: 1}, {1: name}, {name}, name.encode())]
    return names + boxed + anything((12, 5)) + OTHER_KINDS


def no_numbers(least, most):
    """Things of all kinds that are no whole numbers from the least to the most one."""
    things = [least - 1, most + 1, -least, -most, 0, -1, GREAT, -GREAT]
    things += [True, False, None, "1", "", 1.0, (1,), [1], {1: 1}] + anything((12, 5)) + OTHER_KINDS
    return [thing for thing in things if not is_number_by_words(thing) or not least <= thing <= most]


def no_sizes(most):
    """Things of all kinds that are no sizes from 2 to the most one."""
    return [2.0, "2", (2,), [2], {2: 2}] + no_numbers(2, most)


def steps_by_words(rule, lot):
    """How many steps the run has, counted as it goes."""
    steps = 0
    while not has_ended_by_words(lot):
        lot = step_by_words(rule, lot)
        steps += 1
    return steps


class Case(unittest.TestCase):
    """A test case that can tell a refusal's very class, and that nothing was changed."""

    def told(self, call, *handed):
        """What the call answers; asked twice it is the same, and what was handed in stays as it was."""
        ahead = repr(handed)
        answer = call(*handed)
        self.assertEqual(repr(call(*handed)), repr(answer))
        self.assertEqual(repr(handed), ahead)
        return answer

    def assert_told(self, wanted, call, *handed):
        # By repr, so that True is told from 1 and a list from a tuple.
        self.assertEqual(repr(self.told(call, *handed)), repr(wanted), (call.__name__, handed))

    def assert_own_list(self, call, *handed):
        """That the told list is the asker's own: whatever is done to it, what is told later stays the same."""
        told = call(*handed)
        self.assertIs(type(told), list)
        ahead = repr(told)
        for deed in (lambda: told.append((9, 9)), told.reverse, lambda: told.insert(0, None), told.clear):
            deed()
            self.assertEqual(repr(call(*handed)), ahead)
        kept = call(*handed)
        call(*handed).clear()
        self.assertEqual(repr(kept), ahead)

    def assert_refused(self, error, call, *handed):
        ahead = repr(handed)
        with self.assertRaises(error, msg=(call.__name__, handed)) as caught:
            call(*handed)
        self.assertIs(type(caught.exception), error)
        self.assertEqual(repr(handed), ahead)

    def assert_interface(self, call, *names):
        """That the call takes these arguments, by their places, and no others."""
        self.assertEqual(tuple(inspect.signature(call).parameters), names)
