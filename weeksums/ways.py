"""Whether there is a way, why there is none, and the least and the greatest one."""

from weeksums.checks import check_most, check_sums, is_choice, is_row_within
from weeksums.errors import Impossible
from weeksums.ties import are_tied, offsets_of, row_sums, total_at


def conflict_of(sums, length, most):
    """None if there is a way, else a word and the list of the days that rule it out."""
    check_told(sums, length, most)
    return find_conflict(sums, length, most)


def shows_conflict(sums, length, most, thing):
    """Whether any object is a word and a list of days that rule out a way, as the word says."""
    check_told(sums, length, most)
    if type(thing) is not tuple or len(thing) != 2:
        return False
    word, days = thing
    offsets = offsets_of(sums, length)
    if word == "apart":
        return are_apart(offsets, length, most, days)
    if word == "low":
        return is_choice(days, length, len(offsets)) and total_at(sums, offsets, days) < 0
    if word == "high":
        return is_choice(days, length, len(offsets)) and total_at(sums, offsets, days) > length * most
    return False


def is_way(sums, length, most, thing):
    """Whether any object is a list of integers from 0 to most that has the sums."""
    check_told(sums, length, most)
    return is_row_within(thing, len(sums) + length - 1, 0, most) and row_sums(thing, length) == sums


def least_way(sums, length, most):
    """The first of all ways, ascending."""
    check_told(sums, length, most)
    need_way(sums, length, most)
    return first_way(sums, length, most)


def greatest_way(sums, length, most):
    """The last of all ways, ascending."""
    check_told(sums, length, most)
    need_way(sums, length, most)
    offsets = offsets_of(sums, length)
    # Of the negatives of all numbers the least list belongs to the greatest way.
    ranges = [(-high, -low) for low, high in start_ranges(offsets, length, most)]
    starts = [-start for start in least_starts(ranges, -sums[0])]
    return way_from(starts, offsets)


def check_told(sums, length, most):
    """The three arguments that tell of the days, in the order in which they decide the error."""
    check_sums(sums, length)
    check_most(most)


def need_way(sums, length, most):
    """Raises an error unless there is a way, where the arguments are known to be valid."""
    conflict = find_conflict(sums, length, most)
    if conflict is not None:
        word, days = conflict
        raise Impossible(word, days)


def find_conflict(sums, length, most):
    """What conflict_of tells, where the arguments are known to be valid."""
    offsets = offsets_of(sums, length)
    pair = first_apart(offsets, length, most)
    if pair is not None:
        return ("apart", pair)
    lowest = lowest_days(offsets, length)
    if total_at(sums, offsets, lowest) < 0:
        return ("low", lowest)
    highest = highest_days(offsets, length)
    if total_at(sums, offsets, highest) > length * most:
        return ("high", highest)
    return None


def first_apart(offsets, length, most):
    """The least ascending list of two tied days that differ by more than most, or None."""
    for first in range(len(offsets)):
        for second in range(first + length, len(offsets), length):
            if abs(offsets[second] - offsets[first]) > most:
                return [first, second]
    return None


def are_apart(offsets, length, most, thing):
    """Whether any object is a list of two tied days that differ by more than most."""
    if not is_row_within(thing, 2, 0, len(offsets) - 1):
        return False
    first, second = thing
    return are_tied(first, second, length) and abs(offsets[second] - offsets[first]) > most


def lowest_days(offsets, length):
    """Of each class the first day with its least offset, all ascending."""
    days = []
    for start in range(length):
        _, lowest = min([(offsets[day], day) for day in range(start, len(offsets), length)])
        days.append(lowest)
    return sorted(days)


def highest_days(offsets, length):
    """Of each class the first day with its greatest offset, all ascending."""
    return lowest_days([-offset for offset in offsets], length)


def first_way(sums, length, most):
    """The first of all ways, where there is one."""
    offsets = offsets_of(sums, length)
    starts = least_starts(start_ranges(offsets, length, most), sums[0])
    return way_from(starts, offsets)


def start_ranges(offsets, length, most):
    """Of each class the least and the greatest number of its first day with which all its days are from 0 to most."""
    ranges = []
    for start in range(length):
        row = offsets[start::length]
        ranges.append((-min(row), most - max(row)))
    return ranges


def rooms_of(ranges):
    """How much greater than the least number of its range each number can be."""
    return [high - low for low, high in ranges]


def spare_of(ranges, total):
    """What is left of the total where each number is the least one of its range."""
    return total - sum([low for low, _ in ranges])


def least_starts(ranges, total):
    """The least list of numbers in these ranges, one of each, that add up to the total."""
    # All as high as they can be have too much: the earlier a number, the more
    # of that is taken off it.
    beyond = sum([high for _, high in ranges]) - total
    starts = []
    for low, high in ranges:
        less = min(beyond, high - low)
        starts.append(high - less)
        beyond -= less
    return starts


def way_from(starts, offsets):
    """The list of all days, from the first day of each class."""
    return [starts[day % len(starts)] + offsets[day] for day in range(len(offsets))]
