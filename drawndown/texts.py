"""Lots as they are written: their numbers in figures, with `:` between."""

from drawndown.errors import NoText
from drawndown.lots import is_lot, want_lot

FIGURES = "0123456789"
BETWEEN = ":"


def written(lot):
    """The lot as a text."""
    want_lot(lot)
    return BETWEEN.join([in_figures(number) for number in lot])


def read(text):
    """The lot that is written as this text."""
    words = text.split(BETWEEN) if isinstance(text, str) else []
    lot = tuple([number_in(word) for word in words if are_figures(word)])
    if len(lot) != len(words) or not is_lot(lot):
        raise NoText("the numbers of a lot in figures, with : between, are wanted")
    return lot


# Numbers are written and read figure by figure, as Python's own `str` and `int`
# stop at some thousand figures.


def in_figures(number):
    """A number from 0 on, in figures without a nought ahead but in 0 itself."""
    figures = FIGURES[number % 10]
    while number >= 10:
        number = number // 10
        figures = FIGURES[number % 10] + figures
    return figures


def are_figures(word):
    """Whether the word is a number as `in_figures` writes it."""
    # Not by isdigit, which takes the figures of all scripts.
    if word == "" or not all([sign in FIGURES for sign in word]):
        return False
    return word == "0" or word[0] != "0"


def number_in(figures):
    """The number that is written in these figures."""
    number = 0
    for sign in figures:
        number = 10 * number + FIGURES.index(sign)
    return number
