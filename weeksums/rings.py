"""Days in a ring: the sums of the days from each one on, round the ring."""

from math import gcd

from weeksums.checks import check_most, check_ring_numbers, check_ring_sums, is_row_within
from weeksums.counts import count_ways
from weeksums.errors import Disagree
from weeksums.ties import part_total, sums_from
from weeksums.ways import find_conflict, first_way


def ring_sums(numbers, length):
    """The sums of so many days each, from each day of the ring on."""
    check_ring_numbers(numbers, length)
    around = numbers + numbers
    return [sum(around[day:day + length]) for day in range(len(numbers))]


def ring_line(sums, length):
    """The sums, in a row, that just the lists have that have these sums in a ring."""
    check_ring_sums(sums, length)
    opening = find_open(sums, length)
    if opening is not None:
        word, days = opening
        raise Disagree(word, days)
    return line_of(sums, length)


def shows_open(sums, length, thing):
    """Whether any object is a word and a list of days that rule out a list with these sums in a ring."""
    check_ring_sums(sums, length)
    if type(thing) is not tuple or len(thing) != 2:
        return False
    word, days = thing
    if word == "ring":
        return is_round(days, len(sums), length) and rise_along(sums, days) != 0
    return thing == ("parts", []) and find_open(sums, length) == thing


def ring_ways(sums, length, most):
    """How many lists of integers from 0 to most have these sums in a ring."""
    check_ring_sums(sums, length)
    check_most(most)
    if find_open(sums, length) is not None:
        return 0
    return count_ways(line_of(sums, length), gcd(len(sums), length), most)


def ring_least(sums, length, most):
    """The first of these lists, ascending, or None."""
    check_ring_sums(sums, length)
    check_most(most)
    if find_open(sums, length) is not None:
        return None
    line = line_of(sums, length)
    part = gcd(len(sums), length)
    if find_conflict(line, part, most) is not None:
        return None
    return first_way(line, part, most)


def find_open(sums, length):
    """None if some list of integers has these sums in a ring, else a word and the list of the days that rule it out."""
    part = gcd(len(sums), length)
    for start in range(part):
        days = round_from(start, len(sums), length)
        if rise_along(sums, days) != 0:
            return ("ring", days)
    if part_total(sums[0], length, offsets_around(sums, length), part) is None:
        return ("parts", [])
    return None


def line_of(sums, length):
    """The sums in a row, where some list of integers has the sums in a ring."""
    part = gcd(len(sums), length)
    offsets = offsets_around(sums, length)
    return sums_from(offsets, part, part_total(sums[0], length, offsets, part))


def round_from(start, count, length):
    """The days from one on, a length apart, round the ring until it comes again."""
    days = [start]
    day = (start + length) % count
    while day != start:
        days.append(day)
        day = (day + length) % count
    return days + [start]


def is_round(thing, count, length):
    """Whether any object is such a list of days."""
    size = count // gcd(count, length) + 1
    return is_row_within(thing, size, 0, count - 1) and thing == round_from(thing[0], count, length)


def rise_of(sums, day):
    """How much greater the day a length on is, in all lists that have the sums."""
    return sums[(day + 1) % len(sums)] - sums[day]


def rise_along(sums, days):
    """The differences along a list of days, a length apart, added up."""
    return sum([rise_of(sums, day) for day in days[:-1]])


def offsets_around(sums, length):
    """How much greater each day is than the least one that steps of the length join it to."""
    offsets = [0] * len(sums)
    for start in range(gcd(len(sums), length)):
        days = round_from(start, len(sums), length)
        for at in range(len(days) - 2):
            offsets[days[at + 1]] = offsets[days[at]] + rise_of(sums, days[at])
    return offsets
