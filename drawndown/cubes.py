"""Cube numbers: tuples (a, b, c) for a, b times t and c times t times t together, t being the third root of a root."""

from drawndown.errors import NoCube, NoRoot
from drawndown.wholes import are_wholes, is_whole

LEAST_ROOT = 2
MOST_ROOT = 50
PARTS = 3


def want_root(thing):
    """Refuse what is no root."""
    if not is_whole(thing) or not LEAST_ROOT <= thing <= MOST_ROOT or third_root(thing) ** 3 == thing:
        raise NoRoot("a whole number from 2 to 50 that is no third power is wanted")


def want_cube(root, thing):
    """Refuse what is no root, then what is no cube number."""
    want_root(root)
    if not is_cube(thing):
        raise NoCube("a tuple of three whole numbers is wanted")


def is_cube(thing):
    """Whether the thing is a cube number."""
    return are_wholes(thing, PARTS)


def third_root(number):
    """The greatest whole number whose third power is no greater than the number."""
    if number < 0:
        return -1 - third_root(-1 - number)
    guess = 1
    while guess ** 3 <= number:
        guess = 2 * guess
    # From a guess that is too great the next one is lesser, but never below the root.
    while guess ** 3 > number:
        guess = (2 * guess + number // guess ** 2) // 3
    return guess


def cube_sum(root, one, other):
    """The sum of the two cube numbers."""
    want_cube(root, one)
    want_cube(root, other)
    return tuple([part + added for part, added in zip(one, other)])


def cube_product(root, one, other):
    """The product of the two cube numbers."""
    want_cube(root, one)
    want_cube(root, other)
    return product_of(root, one, other)


def product_of(root, one, other):
    """The product of two cube numbers that were looked at."""
    a, b, c = one
    d, e, f = other
    # t three times by itself is the root.
    return a * d + root * (b * f + c * e), a * e + b * d + root * c * f, a * f + b * e + c * d


# To each cube number belongs a second one: what it comes to with each of the two complex third roots
# put for t, multiplied. As these two are conjugates, the second one is above 0 where the number isn't
# 0; and the product of both is a whole number, the norm, which so has the sign of the cube number.


def second_of(root, number):
    """The cube number that, times this one, is the norm."""
    a, b, c = number
    return a * a - root * b * c, root * c * c - a * b, b * b - a * c


def norm_of(root, number):
    """The norm of the cube number: a whole number."""
    return product_of(root, number, second_of(root, number))[0]


def cube_sign(root, number):
    """1, 0 or -1 as the cube number is above, just or below 0."""
    want_cube(root, number)
    return sign_of(root, number)


def sign_of(root, number):
    """The sign of a cube number that was looked at."""
    norm = norm_of(root, number)
    if norm == 0:
        return 0
    return 1 if norm > 0 else -1


def whole_part(root, number):
    """The greatest whole number that is no greater than the cube number."""
    want_cube(root, number)
    a, b, c = number
    low = a + third_root(root * b ** 3) + third_root(root ** 2 * c ** 3)
    # Each of the two third roots is short by less than 1, so both are short by less than 2.
    return low + 1 if sign_of(root, (a - low - 1, b, c)) >= 0 else low
