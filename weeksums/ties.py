"""What the sums tell of the days with certainty: ties and forced totals."""

from weeksums.checks import check_choice, check_day, check_numbers, check_sums


def sums_of(numbers, length):
    """The sums of so many days each, of the numbers of the days."""
    check_numbers(numbers, length)
    return row_sums(numbers, length)


def days_of(sums, length):
    """Of how many days the sums tell."""
    check_sums(sums, length)
    return len(sums) + length - 1


def tied_days(sums, length, day):
    """The class of a day, ascending."""
    count = days_of(sums, length)
    check_day(day, count)
    return list(range(day % length, count, length))


def tie_between(sums, length, first, second):
    """How much greater the second day is than the first one, or None if they are not tied."""
    count = days_of(sums, length)
    check_day(first, count)
    check_day(second, count)
    if not are_tied(first, second, length):
        return None
    offsets = offsets_of(sums, length)
    return offsets[second] - offsets[first]


def forced_total(sums, length, days):
    """The sum of k days, one of each class, in all lists that have the sums."""
    check_choice(days, length, days_of(sums, length))
    return total_at(sums, offsets_of(sums, length), days)


def row_sums(numbers, length):
    """The sums, where numbers and length are known to be valid."""
    return [sum(numbers[day:day + length]) for day in range(len(numbers) - length + 1)]


def are_tied(first, second, length):
    """Whether two days are of one class."""
    return (second - first) % length == 0


def offsets_of(sums, length):
    """How much greater each day is than the first day of its class, in all lists that have the sums."""
    offsets = [0] * length
    for at in range(len(sums) - 1):
        offsets.append(offsets[at] + sums[at + 1] - sums[at])
    return offsets


def sums_from(offsets, length, first):
    """The sums of which these are the offsets, from the first one on."""
    sums = [first]
    for at in range(len(offsets) - length):
        sums.append(sums[at] + offsets[at + length] - offsets[at])
    return sums


def part_total(total, length, offsets, part):
    """What the first days, so many as the part is long, have together if the first length days have this total.

    The offsets are those behind these first days; None if no integers add up to the total.
    """
    rest = total - sum(offsets[:length])
    parts = length // part
    if rest % parts != 0:
        return None
    return rest // parts


def total_at(sums, offsets, days):
    """The forced total of days, one of each class; the first days of the classes have the first sum."""
    return sums[0] + sum([offsets[day] for day in days])
