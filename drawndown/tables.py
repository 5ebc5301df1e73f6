"""Tables: tuples of two to four lines, each a tuple of as many whole numbers as there are lines."""

from drawndown.errors import NoTable, NotAlike, NotFair, NoTuple
from drawndown.wholes import are_wholes, has_size


def is_table(thing):
    """Whether the thing, anything, is a table."""
    if not has_size(thing):
        return False
    return all([are_wholes(line, len(thing)) for line in thing])


def want_table(thing):
    """Refuse what is no table."""
    if not is_table(thing):
        raise NoTable("a tuple of two to four lines, each of as many whole numbers, is wanted")


def times(table, numbers):
    """The table times a tuple of as many whole numbers: a tuple."""
    want_table(table)
    if not are_wholes(numbers, len(table)):
        raise NoTuple("a tuple of as many whole numbers as the table has lines is wanted")
    return lines_times(table, numbers)


def multiplied(one, other):
    """The one table times the other one: a table."""
    want_table(one)
    want_table(other)
    if len(one) != len(other):
        raise NotAlike("tables of one size are wanted")
    return columns_of(tuple([lines_times(one, column) for column in columns_of(other)]))


def one_number(table):
    """The one number of the table, by which it is told whether the table is fair."""
    want_table(table)
    return number_of(table)


def turned_back(table):
    """The table that, times this fair one, has 1 at like places, else 0."""
    own = one_number(table)
    if own != 1 and own != -1:
        raise NotFair("a table whose one number is 1 or -1 is wanted")
    places = list(range(len(table)))
    # Lines and columns change their parts here. To divide by the own number is to
    # multiply by it, as it is 1 or -1.
    return tuple([
        tuple([own * sign_at(line, column) * number_of(without(table, column, line)) for column in places])
        for line in places
    ])


def together(line, numbers):
    """The products of the line's numbers and the tuple's, place by place, together."""
    return sum([one * other for one, other in zip(line, numbers)])


def lines_times(lines, numbers):
    """What each of the lines and the tuple come to together: a tuple."""
    return tuple([together(line, numbers) for line in lines])


def like_places(size):
    """The table of this size with 1 at the places whose line and column are of one number, else 0."""
    places = list(range(size))
    return tuple([tuple([1 if line == column else 0 for column in places]) for line in places])


def growing_products(size, tables):
    """The list of the products of the first of these tables of one size: of none, of one, up to all of them."""
    products = [like_places(size)]
    for table in tables:
        products.append(multiplied(products[-1], table))
    return products


def columns_of(table):
    """The columns of the table, each a tuple, from the left."""
    return tuple([tuple([line[at] for line in table]) for at in range(len(table))])


def number_of(lines):
    """The one number of as many lines as columns, from one on."""
    if len(lines) == 1:
        return lines[0][0]
    # All orders of the columns that begin with the same one are reckoned together.
    return sum([
        sign_at(0, column) * number * number_of(without(lines, 0, column))
        for column, number in enumerate(lines[0])
    ])


def without(lines, at_line, at_column):
    """What is left where one line and one column are left out."""
    kept = lines[:at_line] + lines[at_line + 1:]
    return tuple([line[:at_column] + line[at_column + 1:] for line in kept])


def sign_at(line, column):
    """1 at the places whose line and column are an even number together, else -1."""
    return 1 if (line + column) % 2 == 0 else -1
