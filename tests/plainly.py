"""What the document says, worked out in the plainest way, to hold the package against."""

from itertools import product

WORDS = ("apart", "low", "high")
TOP = 10 ** 30 - 1


def sums_by_hand(numbers, length):
    sums = []
    for at in range(len(numbers) - length + 1):
        total = 0
        for day in range(at, at + length):
            total = total + numbers[day]
        sums.append(total)
    return sums


def list_from(sums, length, start):
    """The list of integers that has the sums and begins with these length - 1 numbers."""
    numbers = list(start)
    for told in sums:
        numbers.append(told - sum(numbers[len(numbers) - length + 1:]) if length > 1 else told)
    return numbers


def some_list(sums, length):
    return list_from(sums, length, range(length - 1))


def all_ways(sums, length, most):
    """All ways, ascending."""
    starts = product(range(most + 1), repeat=length - 1)
    lists = [list_from(sums, length, start) for start in starts]
    return [numbers for numbers in lists if all(0 <= number <= most for number in numbers)]


def all_ways_day_by_day(sums, length, most):
    """The same with nothing worked out: each list of so many days is tried."""
    days = len(sums) + length - 1
    lists = [list(numbers) for numbers in product(range(most + 1), repeat=days)]
    return [numbers for numbers in lists if sums_by_hand(numbers, length) == sums]


def one_of_each(count, length):
    """All lists of one day of each class, the classes in their sequence."""
    classes = [range(start, count, length) for start in range(length)]
    return [list(days) for days in product(*classes)]


def rules_out(sums, length, most, word, days):
    """Whether these days are what the word says; days is a list of integers of any kind."""
    numbers = some_list(sums, length)
    if any(day < 0 or day >= len(numbers) for day in days):
        return False
    if word == "apart":
        if len(days) != 2 or (days[0] - days[1]) % length != 0:
            return False
        return abs(numbers[days[0]] - numbers[days[1]]) > most
    if len(days) != length or len({day % length for day in days}) != length:
        return False
    total = sum(numbers[day] for day in days)
    return total < 0 if word == "low" else total > length * most


def first_extreme(numbers, length, extreme):
    """Of each class the first day with its least (min) or greatest (max) number, ascending."""
    found = []
    for start in range(length):
        row = numbers[start::length]
        found.append(start + length * row.index(extreme(row)))
    return sorted(found)


def told_conflict(sums, length, most):
    """What conflict_of is to tell, by the definitions alone."""
    numbers = some_list(sums, length)
    pairs = [[first, second] for second in range(len(numbers)) for first in range(second)]
    apart = [days for days in pairs if rules_out(sums, length, most, "apart", days)]
    if apart:
        return ("apart", min(apart))
    for word, extreme in (("low", min), ("high", max)):
        days = first_extreme(numbers, length, extreme)
        if rules_out(sums, length, most, word, days):
            return (word, days)
    return None


def numbers_of_many_digits(count, most, seed):
    """So many numbers from 0 to most, always the same ones."""
    numbers = []
    state = seed
    for _ in range(count):
        state = (state * 6364136223846793005 + 1442695040888963407) % 2 ** 64
        wide = (state ** 2 * 998244353 + state) * 10 ** 9 + state // 3
        numbers.append(wide * 7919 % (most + 1))
    return numbers
