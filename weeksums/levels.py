"""How high some day must have been, how low, and how far from one another."""

from weeksums.ties import offsets_of, total_at
from weeksums.ways import check_told, find_conflict, first_apart, first_way, highest_days, lowest_days, need_way


def least_peak(sums, length, most):
    """The least number that some way never passes."""
    check_told(sums, length, most)
    need_way(sums, length, most)
    return peak_of(sums, length)


def peak_paper(sums, length, most):
    """A word and the list of the days that rule out a way below the least peak."""
    check_told(sums, length, most)
    need_way(sums, length, most)
    offsets = offsets_of(sums, length)
    pair = first_apart(offsets, length, peak_of(sums, length) - 1)
    if pair is not None:
        return ("apart", pair)
    return ("high", highest_days(offsets, length))


def greatest_floor(sums, length, most):
    """The greatest number below which some way never falls."""
    check_told(sums, length, most)
    need_way(sums, length, most)
    return floor_of(sums, length, most)


def least_spread(sums, length, most):
    """The least difference of the greatest and the least number of a way."""
    check_told(sums, length, most)
    need_way(sums, length, most)
    offsets = offsets_of(sums, length)
    between = least_high(sums, offsets, length) - greatest_low(sums, offsets, length)
    return max(widest_tie(offsets, length), between)


def way_within(sums, length, most, low, high):
    """The first way with all numbers from low to high, or None."""
    check_told(sums, length, most)
    lowest = max(low, 0)
    highest = min(high, most)
    if lowest > highest:
        return None
    # Ways from lowest to highest are those from 0 on with lowest taken off each day.
    lowered = [told - length * lowest for told in sums]
    if find_conflict(lowered, length, highest - lowest) is not None:
        return None
    return [number + lowest for number in first_way(lowered, length, highest - lowest)]


def peak_of(sums, length):
    """The least peak, where there is a way."""
    offsets = offsets_of(sums, length)
    return max(widest_tie(offsets, length), least_high(sums, offsets, length))


def floor_of(sums, length, most):
    """The greatest floor, where there is a way."""
    offsets = offsets_of(sums, length)
    return min(most - widest_tie(offsets, length), greatest_low(sums, offsets, length))


def widest_tie(offsets, length):
    """The greatest difference of two tied days, 0 where no two days are tied."""
    rows = [offsets[start::length] for start in range(length)]
    return max([max(row) - min(row) for row in rows])


def least_high(sums, offsets, length):
    """The least number such that no forced total is above k times that."""
    # Division rounds down; of the negative it rounds up.
    return -(-total_at(sums, offsets, highest_days(offsets, length)) // length)


def greatest_low(sums, offsets, length):
    """The greatest number such that no forced total is below k times that."""
    return total_at(sums, offsets, lowest_days(offsets, length)) // length
