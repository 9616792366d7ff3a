"""The words of a sheet's rows [23]."""

from millpath.outlines import is_outline

FIGURES = "0123456789"
LETTERS = "abcdefghijklmnopqrstuvwxyz"


def number_in(word):
    """The number that a word is; None where it is none."""
    figures = word[1:] if word.startswith("-") else word
    if not 1 <= len(figures) <= 4 or not all([sign in FIGURES for sign in figures]):
        return None
    # Only the nought itself begins with one, and it has no minus.
    if figures.startswith("0") and word != "0":
        return None
    return int(word)


def numbers_in(words):
    """The list of the numbers that words are; None where one of them is none."""
    numbers = [number_in(word) for word in words]
    return None if None in numbers else numbers


def is_name(word):
    """Whether a word is a name."""
    return 1 <= len(word) <= 8 and all([sign in LETTERS for sign in word])


def outline_in(words):
    """The outline whose corners' numbers are words; None where it is none, or one beyond what sheets let be."""
    numbers = numbers_in(words)
    if numbers is None or len(numbers) % 2 != 0 or len(numbers) > 48:
        return None
    corners = list(zip(numbers[::2], numbers[1::2]))
    if not all([-40 <= number <= 60 for number in numbers]) or not is_outline(corners):
        return None
    return corners
