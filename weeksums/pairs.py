"""What two rows of sums of the same days tell together."""

from math import gcd

from weeksums.checks import check_count, check_length, check_sums, is_row_within
from weeksums.errors import Disagree, InvalidNumber, InvalidSums, TooShort
from weeksums.ties import offsets_of, part_total, sums_from


def joined_days(count, length, other_length):
    """The sets of days that are joined by steps of one or of the other length."""
    check_count(count)
    check_length(length)
    check_length(other_length)
    if count < max(length, other_length):
        raise InvalidNumber("there are fewer days than the greater length")
    return [sorted(tree) for tree in trees_of(count, (length, other_length))]


def have_common(sums, length, other, other_length):
    """Whether some list of integers has both rows of sums."""
    check_both(sums, length, other, other_length)
    return find_disagreement(sums, length, other, other_length) is None


def joint_sums(sums, length, other, other_length):
    """The sums that just the lists have that have both rows of sums; their length is the greatest common divisor."""
    check_both(sums, length, other, other_length)
    if len(sums) + length - 1 < days_needed(length, other_length):
        raise TooShort(days_needed(length, other_length))
    disagreement = find_disagreement(sums, length, other, other_length)
    if disagreement is not None:
        word, days = disagreement
        raise Disagree(word, days)
    rows = rows_of(sums, length, other, other_length)
    numbers = numbers_along(trees_of(len(sums) + length - 1, (length, other_length)), rows)
    part = gcd(length, other_length)
    return sums_from(numbers, part, part_total(sums[0], length, numbers, part))


def shows_disagreement(sums, length, other, other_length, thing):
    """Whether any object is a word and a list of days that rule out a list with both rows of sums."""
    check_both(sums, length, other, other_length)
    if type(thing) is not tuple or len(thing) != 2:
        return False
    word, days = thing
    if word == "ring":
        return length != other_length and is_ring(rows_of(sums, length, other, other_length), days)
    return thing == ("parts", []) and find_disagreement(sums, length, other, other_length) == thing


def check_both(sums, length, other, other_length):
    """Both rows of sums, which have to tell of as many days."""
    check_sums(sums, length)
    check_sums(other, other_length)
    if len(sums) + length != len(other) + other_length:
        raise InvalidSums("the two rows of sums do not tell of as many days")


def days_needed(length, other_length):
    """How many days there are at least if both rows of sums are to be told by one row of sums."""
    return length + other_length - gcd(length, other_length)


def find_disagreement(sums, length, other, other_length):
    """None if some list of integers has both rows of sums, else a word and the list of the days that rule it out."""
    if length == other_length:
        return None if sums == other else ("parts", [])
    rows = rows_of(sums, length, other, other_length)
    count = len(sums) + length - 1
    trees = trees_of(count, (length, other_length))
    numbers = numbers_along(trees, rows)
    ring = find_ring(trees, rows, numbers)
    if ring is not None:
        return ("ring", ring)
    if count < days_needed(length, other_length):
        return None
    part = gcd(length, other_length)
    total = part_total(sums[0], length, numbers, part)
    if total is None or total != part_total(other[0], other_length, numbers, part):
        return ("parts", [])
    return None


def rows_of(sums, length, other, other_length):
    """Each length with the offsets that its sums tell."""
    return [(length, offsets_of(sums, length)), (other_length, offsets_of(other, other_length))]


def trees_of(count, lengths):
    """For each set of joined days a dict from each day to the one that it was reached from, the least day first."""
    trees = []
    for start in range(count):
        if not any([start in tree for tree in trees]):
            trees.append(tree_from(start, count, lengths))
    return trees


def tree_from(start, count, lengths):
    """The days that steps lead to, the nearest ones first, each with the day it was reached from."""
    tree = {start: start}
    nearest = [start]
    while nearest:
        later = []
        for day in nearest:
            for other in days_beside(day, count, lengths):
                if other not in tree:
                    tree[other] = day
                    later.append(other)
        nearest = later
    return tree


def days_beside(day, count, lengths):
    """The days that are one step away."""
    beside = [day - step for step in lengths] + [day + step for step in lengths]
    return [other for other in beside if 0 <= other < count]


def step_between(rows, first, second):
    """How much greater the second day is than the first one, None for days that are no step away."""
    for length, offsets in rows:
        if abs(second - first) == length:
            return offsets[second] - offsets[first]
    return None


def numbers_along(trees, rows):
    """How much greater each day is than the least one of its set, along the steps of the tree."""
    numbers = [0] * sum([len(tree) for tree in trees])
    for tree in trees:
        for day, before in tree.items():
            if day != before:
                numbers[day] = numbers[before] + step_between(rows, before, day)
    return numbers


def find_ring(trees, rows, numbers):
    """A closed list of days along which the steps do not add up to 0, or None."""
    for tree in trees:
        for day in tree:
            for length, offsets in rows:
                other = day + length
                if other in tree and numbers[other] - numbers[day] != offsets[other] - offsets[day]:
                    return closed_list(path_to(tree, day), path_to(tree, other))
    return None


def path_to(tree, day):
    """The days from the first one of a tree to this one."""
    path = [day]
    while tree[day] != day:
        day = tree[day]
        path.append(day)
    return path[::-1]


def closed_list(path, other):
    """Along one path, over to the end of the other one, and back; what both have in common is left out."""
    while len(path) > 1 and len(other) > 1 and path[1] == other[1]:
        path = path[1:]
        other = other[1:]
    return path + other[::-1]


def is_ring(rows, thing):
    """Whether any object is a closed list of days along which the steps do not add up to 0."""
    count = len(rows[0][1])
    if type(thing) is not list or not thing or not is_row_within(thing, len(thing), 0, count - 1):
        return False
    steps = [step_between(rows, thing[at], thing[at + 1]) for at in range(len(thing) - 1)]
    return thing[0] == thing[-1] and None not in steps and sum(steps) != 0
