"""What the tests of cube numbers and rounds share: points 19 to 22 said a second time, by bounds and by fractions."""

import functools
from fractions import Fraction

from things import OTHER_KINDS, anything, is_number_by_words, is_tuple_by_words

ROOTS = [root for root in range(2, 51) if root not in (8, 27)]

# So many figures of the third root are looked at.
SCALE = 10 ** 420

NOTHING = (0, 0, 0)


@functools.lru_cache(maxsize=None)
def low_root(root):
    """The greatest whole number that is no greater than the third root times the scale."""
    low, high = 0, 4 * SCALE
    while high - low > 1:
        middle = (low + high) // 2
        low, high = (middle, high) if middle ** 3 <= root * SCALE ** 3 else (low, middle)
    return low


def bounds(root, number):
    """Two whole numbers between which the cube number, times the scale twice, lies."""
    a, b, c = number
    below = low_root(root)
    first = sorted([b * below * SCALE, b * (below + 1) * SCALE])
    second = sorted([c * below ** 2, c * (below + 1) ** 2])
    return tuple(a * SCALE ** 2 + one + other for one, other in zip(first, second))


def sign_by_words(root, number):
    if number == NOTHING:
        return 0
    low, high = bounds(root, number)
    assert low > 0 or high < 0, "more figures are needed"
    return 1 if low > 0 else -1


def whole_part_by_words(root, number):
    low, high = [bound // SCALE ** 2 for bound in bounds(root, number)]
    assert low == high, "more figures are needed"
    return low


def product_by_words(root, one, other):
    """By powers of t, each from the third on brought down by three."""
    powers = [0] * 5
    for i, left in enumerate(one):
        for j, right in enumerate(other):
            powers[i + j] += left * right
    for power in (4, 3):
        powers[power - 3] += root * powers[power]
    return tuple(powers[:3])


def power_by_words(root, number, many):
    power = (1, 0, 0)
    for count in range(many):
        power = product_by_words(root, power, number)
    return power


def through_by_words(root, one, other):
    """The one cube number through the other one, three fractions: what, times the other one, is the one."""
    columns = [product_by_words(root, other, power) for power in ((1, 0, 0), (0, 1, 0), (0, 0, 1))]
    rows = [[Fraction(column[at]) for column in columns] + [Fraction(one[at])] for at in range(3)]
    for at in range(3):
        pivot = next(k for k in range(at, 3) if rows[k][at] != 0)
        rows[at], rows[pivot] = rows[pivot], rows[at]
        rows[at] = [number / rows[at][at] for number in rows[at]]
        for k in range(3):
            if k != at:
                rows[k] = [left - rows[k][at] * right for left, right in zip(rows[k], rows[at])]
    return tuple(row[3] for row in rows)


def less_by_words(number, many, taken):
    return tuple(part - many * off for part, off in zip(number, taken))


def often_by_words(root, number, first):
    """How often the first goes into the number, by halving, each try by what is left."""
    high = 1
    while sign_by_words(root, less_by_words(number, high, first)) >= 0:
        high *= 2
    low = 0
    while high - low > 1:
        middle = (low + high) // 2
        if sign_by_words(root, less_by_words(number, middle, first)) >= 0:
            low = middle
        else:
            high = middle
    return low


def is_cube_lot_by_words(root, thing):
    if type(thing) is not tuple or len(thing) != 3 or not all(is_tuple_by_words(part, 3) for part in thing):
        return False
    return all(sign_by_words(root, part) >= 0 for part in thing) and any(part != NOTHING for part in thing)


def cube_ended_by_words(lot):
    return sum(part != NOTHING for part in lot) == 1


def cube_quotients_by_words(root, lot):
    if lot[0] == NOTHING:
        return [0, 0]
    return [often_by_words(root, other, lot[0]) for other in lot[1:]]


def cube_step_by_words(root, lot):
    one, other = cube_quotients_by_words(root, lot)
    return less_by_words(lot[1], one, lot[0]), less_by_words(lot[2], other, lot[0]), lot[0]


def cube_table_by_words(root, lot):
    one, other = cube_quotients_by_words(root, lot)
    return ((0, 0, 1), (1, 0, one), (0, 1, other))


def shape_by_words(root, lot):
    """Each number through the first one that isn't 0: the same just of lots that are alike."""
    first = next(part for part in lot if part != NOTHING)
    return tuple(through_by_words(root, part, first) for part in lot)


def cube_run_by_words(root, lot, most):
    """The cube lots up to so many steps behind this one, none behind one that has ended."""
    lots = [lot]
    while len(lots) <= most and not cube_ended_by_words(lots[-1]):
        lots.append(cube_step_by_words(root, lots[-1]))
    return lots


def cube_round_by_words(root, lot, most):
    shapes = [shape_by_words(root, each) for each in cube_run_by_words(root, lot, most)]
    for whole in range(1, len(shapes)):
        for ahead in range(whole):
            if shapes[ahead] == shapes[whole]:
                return ahead, whole - ahead
    return None


def some_cube(dice, most):
    return tuple(dice.randint(-most, most) for part in range(3))


def some_cube_above(dice, root, most):
    """A cube number above 0: one below 0 is turned."""
    number = some_cube(dice, most)
    sign = sign_by_words(root, number)
    return tuple(sign * part for part in number) if sign != 0 else (1, 0, 0)


def some_cube_lot(dice, root, most):
    """A cube lot of cube numbers of any size, now and then with a nought or like numbers in it."""
    numbers = [some_cube_above(dice, root, most) for place in range(3)]
    if dice.randrange(4) == 0:
        numbers[dice.randrange(3)] = dice.choice(numbers)
    if dice.randrange(4) == 0:
        numbers[dice.randrange(3)] = NOTHING
    return tuple(numbers)


def times_all(root, lot, factor):
    return tuple(product_by_words(root, part, factor) for part in lot)


def no_roots():
    """Things of all kinds that are no roots."""
    things = [8, 27, 1, 0, -1, -2, -7, 51, 52, 64, 125, 2.0, True, False, "2", None, (2,), [2], {2: 2}]
    things += anything((2, 3, 5)) + OTHER_KINDS
    return [thing for thing in things if not is_number_by_words(thing) or thing not in ROOTS]


def no_cubes():
    """Things of all kinds that are no cube numbers."""
    things = anything((1, -2, 3), (0, 0, 0)) + OTHER_KINDS
    return [thing for thing in things if not is_tuple_by_words(thing, 3)]


def no_cube_lots(root):
    """Things of all kinds that are no cube lots of the root."""
    good = [((1, 0, 0), (0, 1, 0), (0, 0, 1)), ((-1, 1, 0), (0, 0, 0), (5, 0, 0))]
    return [thing for thing in anything(*good) + OTHER_KINDS if not is_cube_lot_by_words(root, thing)]
