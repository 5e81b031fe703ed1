"""The least and the greatest number that days, and sums of days, have over all ways."""

from weeksums.checks import check_day, check_different, check_row
from weeksums.ties import offsets_of
from weeksums.ways import check_told, need_way, rooms_of, spare_of, start_ranges


def day_range(sums, length, most, day):
    """The range of one day."""
    check_told(sums, length, most)
    check_day(day, len(sums) + length - 1)
    need_way(sums, length, most)
    return range_between(sums, length, most, [], [day])


def all_ranges(sums, length, most):
    """The list of the ranges of all days."""
    check_told(sums, length, most)
    need_way(sums, length, most)
    return ranges_of(sums, length, most)


def certain_days(sums, length, most):
    """The days that have one number in all ways, each with its number, ascending."""
    check_told(sums, length, most)
    need_way(sums, length, most)
    return certain_of(sums, length, most)


def row_range(sums, length, most, first, beyond):
    """The range of the sum of the days from the first one on, ahead of the one beyond."""
    check_told(sums, length, most)
    check_row(first, beyond, len(sums) + length - 1)
    need_way(sums, length, most)
    return range_between(sums, length, most, [], list(range(first, beyond)))


def total_range(sums, length, most, days):
    """The range of the sum of different days."""
    check_told(sums, length, most)
    check_different(days, len(sums) + length - 1)
    need_way(sums, length, most)
    return range_between(sums, length, most, [], days)


def difference_range(sums, length, most, first, second):
    """The range of how much greater the second day is than the first one."""
    check_told(sums, length, most)
    check_day(first, len(sums) + length - 1)
    check_day(second, len(sums) + length - 1)
    need_way(sums, length, most)
    return range_between(sums, length, most, [first], [second])


def next_range(sums, length, most):
    """The range of the sum that can come next."""
    check_told(sums, length, most)
    need_way(sums, length, most)
    return range_ahead(sums, length, most)


def ranges_of(sums, length, most):
    """The list of the ranges of all days, where there is a way."""
    return [range_between(sums, length, most, [], [day]) for day in range(len(sums) + length - 1)]


def certain_of(sums, length, most):
    """The days that have one number in all ways, where there is a way."""
    ranges = ranges_of(sums, length, most)
    return [(day, low) for day, (low, high) in enumerate(ranges) if low == high]


def range_ahead(sums, length, most):
    """The range of the sum that can come next, where there is a way."""
    # The next sum takes in a new day, which may have any number, and no longer
    # the first day of the last sum.
    low, high = range_between(sums, length, most, [len(sums) - 1], [])
    return (sums[-1] + low, sums[-1] + high + most)


def range_between(sums, length, most, less, more):
    """The range of the sum of some days less that of other ones, where there is a way."""
    offsets = offsets_of(sums, length)
    ranges = start_ranges(offsets, length, most)
    weights = [0] * length
    least = 0
    for sign, days in ((-1, less), (1, more)):
        for day in days:
            start = day % length
            weights[start] += sign
            least += sign * (ranges[start][0] + offsets[day])
    rooms = list(zip(weights, rooms_of(ranges)))
    spare = spare_of(ranges, sums[0])
    return (least + spare_weight(sorted(rooms), spare), least + spare_weight(sorted(rooms, reverse=True), spare))


def spare_weight(rooms, spare):
    """What the spare weighs where it fills the rooms, a weight and a size each, one after the other."""
    total = 0
    for weight, room in rooms:
        put = min(room, spare)
        total += weight * put
        spare -= put
    return total
