"""The one text of sums, of ways and of bounds, and back."""

from weeksums.checks import GREATEST_BOUNDS, GREATEST_COUNT, check_bounds, check_row_of_sums, check_way
from weeksums.errors import InvalidText

GREATEST_DIGITS = 30


def write_sums(sums):
    """The text of sums."""
    check_row_of_sums(sums)
    return numbers_text(sums)


def read_sums(text):
    """The sums that have this text."""
    return [int(word) for word in right_words(text, GREATEST_COUNT, is_number)]


def write_way(way):
    """The text of a way."""
    check_way(way)
    return numbers_text(way)


def read_way(text):
    """The way that has this text."""
    return [int(word) for word in right_words(text, GREATEST_COUNT, is_count)]


def write_bounds(bounds):
    """The text of bounds."""
    check_bounds(bounds)
    return " ".join([range_text(bound) for bound in bounds])


def read_bounds(text):
    """The bounds that have this text."""
    found = []
    for word in right_words(text, GREATEST_BOUNDS, is_range):
        least, _, greatest = word.partition("..")
        found.append((int(least), int(greatest)))
    return found


def numbers_text(numbers):
    """Numbers with blanks between."""
    return " ".join([str(number) for number in numbers])


def range_text(told):
    """A least and a greatest number."""
    least, greatest = told
    return f"{least}..{greatest}"


def right_words(text, many, fits):
    """The words of a text, of which at most so many can stand there, and each must fit."""
    words = text.split(" ")
    for place, word in enumerate(words):
        if place >= many or not fits(word):
            raise InvalidText(place)
    return words


def is_number(word):
    """Whether a word is the one text of an integer of at most 30 digits."""
    digits = word[1:] if word.startswith("-") else word
    if not digits.isascii() or not digits.isdigit() or len(digits) > GREATEST_DIGITS:
        return False
    return word == "0" or not digits.startswith("0")


def is_count(word):
    """Whether a word is the one text of an integer from 0 on."""
    return is_number(word) and not word.startswith("-")


def is_range(word):
    """Whether a word is the one text of a least and a greatest number."""
    least, _, greatest = word.partition("..")
    return is_number(least) and is_number(greatest) and int(least) <= int(greatest)
