"""Figures: whole numbers as words of texts and rows."""

FIGURES = "0123456789"
MOST_FIGURES = 60


def is_number(word):
    """Whether a word is a number of at most sixty figures, written as such are."""
    figures = word.removeprefix("-")
    if not 1 <= len(figures) <= MOST_FIGURES or not all([sign in FIGURES for sign in figures]):
        return False
    return word == "0" or figures[0] != "0"


def has_too_many_figures(number):
    return abs(number) >= 10 ** 60
