"""What is valid: each check raises the error of its own argument."""

from weeksums.errors import InvalidBounds, InvalidDay, InvalidDays, InvalidIndex, InvalidLength, InvalidMost
from weeksums.errors import InvalidNumber, InvalidNumbers, InvalidSums, InvalidWay

GREATEST_COUNT = 67
GREATEST_RING = 60
GREATEST_BOUNDS = 60
GREATEST_LENGTH = 8
GREATEST_MOST = 10 ** 30 - 1


def is_integer(thing):
    """Whether any object is an integer; True and False are none, though Python counts them as such."""
    return isinstance(thing, int) and not isinstance(thing, bool)


def is_within(thing, low, high):
    """Whether any object is an integer from low to high."""
    return is_integer(thing) and low <= thing <= high


def is_row(thing, many):
    """Whether any object is a list of 1 to so many integers."""
    if type(thing) is not list or not 1 <= len(thing) <= many:
        return False
    return all([is_integer(item) for item in thing])


def is_row_within(thing, count, low, high):
    """Whether any object is a list of count integers from low to high."""
    if type(thing) is not list or len(thing) != count:
        return False
    return all([is_within(item, low, high) for item in thing])


def is_choice(thing, length, count):
    """Whether any object is a list of days, one of each class, out of count days."""
    if not is_row_within(thing, length, 0, count - 1):
        return False
    return sorted([day % length for day in thing]) == list(range(length))


def is_bound(thing):
    """Whether any object is a tuple of two integers, the first one not greater than the second one."""
    if type(thing) is not tuple or len(thing) != 2:
        return False
    least, greatest = thing
    return is_integer(least) and is_integer(greatest) and least <= greatest


def check_numbers(numbers, length):
    """The numbers of the days, then the length of the sums that are asked of them."""
    if not is_row(numbers, GREATEST_COUNT):
        raise InvalidNumbers("the numbers are not a list of 1 to 67 integers")
    if not is_within(length, 1, min(GREATEST_LENGTH, len(numbers))):
        raise InvalidLength("the length is not from 1 to 8 and at most the number of days")


def check_row_of_sums(sums):
    """The sums by themselves, without their length."""
    if not is_row(sums, GREATEST_COUNT):
        raise InvalidSums("the sums are not a list of 1 to 67 integers")


def check_sums(sums, length):
    """The sums, then their length, which together tell of a number of days."""
    check_row_of_sums(sums)
    if not is_within(length, 1, min(GREATEST_LENGTH, GREATEST_COUNT + 1 - len(sums))):
        raise InvalidLength("the length is not from 1 to 8, or tells of more than 67 days")


def check_bounds(bounds):
    """The bounds of the sums."""
    if type(bounds) is not list or not 1 <= len(bounds) <= GREATEST_BOUNDS:
        raise InvalidBounds("the bounds are not a list of 1 to 60 tuples")
    if not all([is_bound(bound) for bound in bounds]):
        raise InvalidBounds("the bounds of a sum are not a least and a greatest integer")


def check_way(way):
    """A way of which the sums and the most are not known."""
    if not is_row(way, GREATEST_COUNT) or min(way) < 0:
        raise InvalidWay("the way is not a list of 1 to 67 integers from 0 on")


def check_length(length):
    """A length by itself, without sums."""
    if not is_within(length, 1, GREATEST_LENGTH):
        raise InvalidLength("the length is not from 1 to 8")


def check_count(count):
    """A number of days."""
    if not is_within(count, 1, GREATEST_COUNT):
        raise InvalidNumber("the number of days is not from 1 to 67")


def check_ring_numbers(numbers, length):
    """The numbers of days in a ring, then the length of the sums that are asked of them."""
    if not is_row(numbers, GREATEST_RING):
        raise InvalidNumbers("the numbers are not a list of 1 to 60 integers")
    check_ring_length(length, len(numbers))


def check_ring_sums(sums, length):
    """The sums of days in a ring, then their length."""
    if not is_row(sums, GREATEST_RING):
        raise InvalidSums("the sums are not a list of 1 to 60 integers")
    check_ring_length(length, len(sums))


def check_ring_length(length, count):
    """The length of the sums of so many days in a ring."""
    if not is_within(length, 1, min(GREATEST_LENGTH, count)):
        raise InvalidLength("the length is not from 1 to 8 and at most the number of days")


def check_most(most):
    """The greatest number that a day can have."""
    if not is_within(most, 0, GREATEST_MOST):
        raise InvalidMost("the most is not from 0 to 10 ** 30 - 1")


def check_day(day, count):
    """One day out of count days."""
    if not is_within(day, 0, count - 1):
        raise InvalidDay("there is no such day")


def check_row(first, beyond, count):
    """The first day of a row out of count days, and the one behind its last day; it may have no day."""
    if not is_within(first, 0, count):
        raise InvalidDay("no row can begin there")
    if not is_within(beyond, first, count):
        raise InvalidDay("a row that begins there cannot end ahead of this one")


def check_different(days, count):
    """A list of different days, perhaps none, out of count days."""
    if type(days) is not list or not is_row_within(days, len(days), 0, count - 1):
        raise InvalidDays("the days are not a list of days")
    if len(set(days)) != len(days):
        raise InvalidDays("a day stands twice in the list")


def check_choice(days, length, count):
    """A list of days, one of each class, out of count days."""
    if not is_choice(days, length, count):
        raise InvalidDays("the days are not a list of one day of each class")


def check_index(index):
    """The index of a way; how many there are is not known here."""
    if not is_integer(index) or index < 0:
        raise InvalidIndex("the index is not an integer from 0 on")


def check_place(index, count):
    """The index of one of so many things."""
    if not is_within(index, 0, count - 1):
        raise InvalidIndex("there is no such index")


def check_number(number):
    """A number that a day, or a sum, may have or not."""
    if not is_integer(number):
        raise InvalidNumber("the number is not an integer")
