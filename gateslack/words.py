"""Whole numbers and NAMES, and whole numbers that a text writes."""

MOST = 999
# The bounds of a CLOCK: its PERIOD, its SKEWS, which go as far below 0, and how many these are.
LONGEST_PERIOD = 99999
MOST_SKEW = 9999
MOST_SKEWS = 4
LOWEST_WRITTEN = -9999
HIGHEST_WRITTEN = 99999
MOST_FIGURES = 5
MOST_LETTERS = 8
FIGURES = "0123456789"
LETTERS = "abcdefghijklmnopqrstuvwxyz"


def is_whole(thing, *, least=0, most=MOST):
    """Whether anything is a whole number from least to most."""
    # True and False are ints to isinstance; here they are no numbers.
    return type(thing) is int and least <= thing <= most


def is_name(thing):
    """Whether anything is a NAME: 1 to 8 small letters."""
    return type(thing) is str and is_written(thing, LETTERS, MOST_LETTERS)


def number_in(word, *, least=0, most=MOST):
    """The whole number from least to most that a text writes, or None."""
    if type(word) is not str or not is_written(word.removeprefix("-"), FIGURES, MOST_FIGURES):
        return None
    number = int(word)
    lowest = max(least, LOWEST_WRITTEN)
    highest = min(most, HIGHEST_WRITTEN)
    # A number is written in one way alone: so no 0 ahead and no -0.
    if str(number) != word or not is_whole(number, least=lowest, most=highest):
        return None
    return number


def is_written(text, signs, most):
    """Whether a text has 1 to so many signs, all of them of these."""
    return 1 <= len(text) <= most and all([sign in signs for sign in text])
