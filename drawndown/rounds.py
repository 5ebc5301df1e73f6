"""Cube lots: three cube numbers drawn down by turning, till they come round."""

from drawndown.cubes import is_cube, norm_of, product_of, second_of, sign_of, want_root, whole_part
from drawndown.errors import Ended, NoCube
from drawndown.tables import growing_products, number_of, one_number, without
from drawndown.wholes import want_number

SIZE = 3
NOTHING = (0, 0, 0)
MOST_ROUND = 40


def is_cube_lot(root, thing):
    """Whether the thing is a cube lot of the root."""
    if not isinstance(thing, tuple) or len(thing) != SIZE or not all([is_cube(part) for part in thing]):
        return False
    signs = [sign_of(root, part) for part in thing]
    return min(signs) >= 0 and max(signs) > 0


def want_cube_lot(root, thing):
    """Refuse what is no root, then what is no cube lot."""
    want_root(root)
    if not is_cube_lot(root, thing):
        raise NoCube("a tuple of three cube numbers, none below 0, not all 0, is wanted")


def want_cube_step(root, lot):
    """Refuse what has no step by turning."""
    want_cube_lot(root, lot)
    if is_at_end(lot):
        raise Ended("a cube lot with more than one number that isn't 0 is wanted")


def want_cube_round(root, lot, most):
    """Refuse what is no cube lot, then what is no number that says how many steps at most."""
    want_cube_lot(root, lot)
    want_number(most, 1, MOST_ROUND)


def is_at_end(lot):
    """Whether just one number of the cube lot isn't 0."""
    return len([part for part in lot if part != NOTHING]) == 1


def quotients(root, lot):
    """How often the first number goes wholly into each of the others, 0 where it is 0."""
    first = lot[0]
    if first == NOTHING:
        return [0, 0]
    # Both numbers are multiplied by the second one of the first, which so becomes its norm: a whole
    # number above 0. Into the other one it goes as often as into that one's whole part.
    second, norm = second_of(root, first), norm_of(root, first)
    return [whole_part(root, product_of(root, other, second)) // norm for other in lot[1:]]


def cube_step(root, lot):
    """The cube lot behind one step of this one by turning."""
    want_cube_step(root, lot)
    first = lot[0]
    left = [less(other, many, first) for other, many in zip(lot[1:], quotients(root, lot))]
    return tuple(left) + (first,)


def less(number, many, taken):
    """The cube number less the taken one so many times."""
    return tuple([part - many * off for part, off in zip(number, taken)])


def cube_table(root, lot):
    """The table of one step by turning: times the cube lot behind the step it is the one ahead."""
    want_cube_step(root, lot)
    first, second = quotients(root, lot)
    return (0, 0, 1), (1, 0, first), (0, 1, second)


def cubes_alike(root, one, other):
    """Whether the one cube lot's numbers, each times the same number, are the other one's."""
    want_cube_lot(root, one)
    want_cube_lot(root, other)
    return are_alike(root, one, other)


def are_alike(root, one, other):
    """Whether two cube lots that were looked at are alike."""
    # Any place will do whose number isn't 0: the factor is what stands there through what stands here.
    at = [place for place in range(SIZE) if one[place] != NOTHING][0]
    crossed = [product_of(root, part, other[at]) for part in one]
    return crossed == [product_of(root, part, one[at]) for part in other]


def cube_round(root, lot, most):
    """The round (ahead, steps) that is there first, None where none is up to so many steps."""
    want_cube_round(root, lot, most)
    lots = [lot]
    while len(lots) <= most and not is_at_end(lots[-1]):
        behind = cube_step(root, lots[-1])
        for ahead, earlier in enumerate(lots):
            if are_alike(root, earlier, behind):
                return ahead, len(lots) - ahead
        lots.append(behind)
    return None


def round_table(root, lot, most):
    """The product of the tables of the steps of that round, None where there is none."""
    found = cube_round(root, lot, most)
    if found is None:
        return None
    ahead, steps = found
    for count in range(ahead):
        lot = cube_step(root, lot)
    tables = []
    for count in range(steps):
        tables.append(cube_table(root, lot))
        lot = cube_step(root, lot)
    return growing_products(SIZE, tables)[-1]


def round_numbers(root, lot, most):
    """The three numbers of the table of that round, None where there is none."""
    table = round_table(root, lot, most)
    if table is None:
        return None
    along = sum([table[at][at] for at in range(SIZE)])
    left = sum([number_of(without(table, at, at)) for at in range(SIZE)])
    return along, left, one_number(table)
