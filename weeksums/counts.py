"""How many ways there are, and each of them by its index."""

from math import comb

from weeksums.checks import check_day, check_index, check_number, is_within
from weeksums.errors import InvalidIndex, InvalidWay
from weeksums.ties import offsets_of
from weeksums.ways import check_told, find_conflict, is_way, need_way, rooms_of, spare_of, start_ranges, way_from

# The first days of the classes tell a way, and stand in it ahead of all others.
# What each of them has beyond its least number is a list that fills the rooms:
# numbers from 0 to the room of each class that add up to the spare. The ways
# and these lists have the same sequence.


def count_ways(sums, length, most):
    """How many ways there are."""
    check_told(sums, length, most)
    if find_conflict(sums, length, most) is not None:
        return 0
    return count_of(sums, length, most)


def nth_way(sums, length, most, index):
    """The way with this index, of all ways ascending."""
    check_told(sums, length, most)
    check_index(index)
    need_way(sums, length, most)
    if index >= count_of(sums, length, most):
        raise InvalidIndex("there are not so many ways")
    offsets = offsets_of(sums, length)
    ranges = start_ranges(offsets, length, most)
    filling = nth_filling(rooms_of(ranges), spare_of(ranges, sums[0]), index)
    return way_from([low + more for (low, _), more in zip(ranges, filling)], offsets)


def way_index(sums, length, most, way):
    """The index of a way, of all ways ascending."""
    check_told(sums, length, most)
    need_way(sums, length, most)
    if not is_way(sums, length, most, way):
        raise InvalidWay("this is no way")
    ranges = start_ranges(offsets_of(sums, length), length, most)
    filling = [number - low for number, (low, _) in zip(way, ranges)]
    return filling_index(rooms_of(ranges), spare_of(ranges, sums[0]), filling)


def count_with(sums, length, most, day, number):
    """In how many ways a day has a number."""
    check_told(sums, length, most)
    check_day(day, len(sums) + length - 1)
    check_number(number)
    if find_conflict(sums, length, most) is not None:
        return 0
    offsets = offsets_of(sums, length)
    ranges = start_ranges(offsets, length, most)
    first = number - offsets[day]
    low, high = ranges[day % length]
    if not is_within(first, low, high):
        return 0
    ranges[day % length] = (first, first)
    return count_fillings(rooms_of(ranges), spare_of(ranges, sums[0]))


def count_of(sums, length, most):
    """How many ways there are, where there is one."""
    ranges = start_ranges(offsets_of(sums, length), length, most)
    return count_fillings(rooms_of(ranges), spare_of(ranges, sums[0]))


def count_fillings(rooms, total):
    """How many lists of numbers from 0 to each of the rooms add up to the total; a room of -1 holds no number."""
    # By inclusion and exclusion, for each choice of rooms: the lists without an
    # upper limit in which each number of a chosen room is beyond that room.
    terms = [(1, total)]
    for room in rooms:
        terms = terms + [(-sign, left - room - 1) for sign, left in terms]
    others = len(rooms) - 1
    return sum([sign * comb(left + others, others) for sign, left in terms if left >= 0])


def count_ahead(rooms, total, number):
    """How many of these lists have less than a number in the first room."""
    return count_fillings([number - 1] + rooms[1:], total)


def nth_filling(rooms, total, index):
    """The list with this index, of all that fill the rooms, ascending."""
    filling = []
    for at in range(len(rooms)):
        number = greatest_start(rooms[at:], total, index)
        index -= count_ahead(rooms[at:], total, number)
        total -= number
        filling.append(number)
    return filling


def greatest_start(rooms, total, index):
    """The number in the first room of the list with this index."""
    low = 0
    high = rooms[0]
    while low < high:
        middle = (low + high + 1) // 2
        if count_ahead(rooms, total, middle) <= index:
            low = middle
        else:
            high = middle - 1
    return low


def filling_index(rooms, total, filling):
    """The index of a list, of all that fill the rooms, ascending."""
    index = 0
    for at, number in enumerate(filling):
        index += count_ahead(rooms[at:], total, number)
        total -= number
    return index
