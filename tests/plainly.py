"""What the document says, worked out in the plainest way, to hold the package against."""

from itertools import product

WORDS = ("apart", "low", "high")
TOP = 10 ** 30 - 1


# length, how many sums, most
SIZES = (
    [(1, many, most) for many in (1, 2, 3) for most in (0, 1, 2)]
    + [(2, many, most) for many in (1, 2, 3) for most in (0, 1, 2)]
    + [(2, 4, 1), (2, 5, 1), (2, 4, 2), (1, 4, 1)]
    + [(3, many, most) for many in (1, 2, 3) for most in (0, 1, 2)]
    + [(3, 4, 1), (4, 1, 1), (4, 2, 1), (4, 3, 1), (4, 2, 2), (5, 1, 2), (5, 3, 1), (6, 2, 1), (7, 2, 1), (8, 2, 1)]
)


def sums_by_hand(numbers, length):
    sums = []
    for at in range(len(numbers) - length + 1):
        total = 0
        for day in range(at, at + length):
            total = total + numbers[day]
        sums.append(total)
    return sums


def list_from(sums, length, start):
    """The list of integers that has the sums and begins with these length - 1 numbers."""
    numbers = list(start)
    for told in sums:
        numbers.append(told - sum(numbers[len(numbers) - length + 1:]) if length > 1 else told)
    return numbers


def some_list(sums, length):
    return list_from(sums, length, range(length - 1))


def all_ways(sums, length, most):
    """All ways, ascending."""
    starts = product(range(most + 1), repeat=length - 1)
    lists = [list_from(sums, length, start) for start in starts]
    return [numbers for numbers in lists if all(0 <= number <= most for number in numbers)]


def all_ways_day_by_day(sums, length, most):
    """The same with nothing worked out: each list of so many days is tried."""
    days = len(sums) + length - 1
    lists = [list(numbers) for numbers in product(range(most + 1), repeat=days)]
    return [numbers for numbers in lists if sums_by_hand(numbers, length) == sums]


def one_of_each(count, length):
    """All lists of one day of each class, the classes in their sequence."""
    classes = [range(start, count, length) for start in range(length)]
    return [list(days) for days in product(*classes)]


def rules_out(sums, length, most, word, days):
    """Whether these days are what the word says; days is a list of integers of any kind."""
    return is_ruled_out(some_list(sums, length), length, most, word, days)


def is_ruled_out(numbers, length, most, word, days):
    """The same with any list of integers that has the sums."""
    if any(day < 0 or day >= len(numbers) for day in days):
        return False
    if word == "apart":
        if len(days) != 2 or (days[0] - days[1]) % length != 0:
            return False
        return abs(numbers[days[0]] - numbers[days[1]]) > most
    if len(days) != length or len({day % length for day in days}) != length:
        return False
    total = sum(numbers[day] for day in days)
    return total < 0 if word == "low" else total > length * most


def first_extreme(numbers, length, extreme):
    """Of each class the first day with its least (min) or greatest (max) number, ascending."""
    found = []
    for start in range(length):
        row = numbers[start::length]
        found.append(start + length * row.index(extreme(row)))
    return sorted(found)


def told_conflict(sums, length, most):
    """What conflict_of is to tell, by the definitions alone."""
    numbers = some_list(sums, length)
    pairs = [[first, second] for second in range(len(numbers)) for first in range(second)]
    apart = [days for days in pairs if is_ruled_out(numbers, length, most, "apart", days)]
    if apart:
        return ("apart", min(apart))
    for word, extreme in (("low", min), ("high", max)):
        days = first_extreme(numbers, length, extreme)
        if is_ruled_out(numbers, length, most, word, days):
            return (word, days)
    return None


def numbers_of_many_digits(count, most, seed):
    """So many numbers from 0 to most, always the same ones."""
    numbers = []
    state = seed
    for _ in range(count):
        state = (state * 6364136223846793005 + 1442695040888963407) % 2 ** 64
        wide = (state ** 2 * 998244353 + state) * 10 ** 9 + state // 3
        numbers.append(wide * 7919 % (most + 1))
    return numbers


def small_rows():
    """All sums of these sizes from one below what can be to one above it."""
    for length, many, most in SIZES:
        for sums in product(range(-1, length * most + 2), repeat=many):
            yield list(sums), length, most


def rows_with_ways():
    """The small sums of which there are ways, with all of these."""
    for sums, length, most in small_rows():
        ways = all_ways(sums, length, most)
        if ways:
            yield sums, length, most, ways


def ends(values):
    return (min(values), max(values))


def lists_of_67_days(most):
    """For each length numbers of 67 days, some with little room and some with much."""
    for length in range(1, 9):
        for part in (1, 2, 9):
            yield length, numbers_of_many_digits(67, most // part, length + part + most % 1000)


def narrow_list(length, start, room, most):
    """Numbers of 67 days; one class of days reaches from 0 to so far below the most."""
    numbers = numbers_of_many_digits(67, most // 2, length + start + room)
    row = [day for day in range(67) if day % length == start]
    for day in row:
        numbers[day] = numbers[day] % (most - room + 1)
    numbers[row[1]] = most - room
    numbers[row[2]] = 0
    return numbers


def moved(numbers, length, heavy, light, by):
    """The numbers with so much moved from the days of one class to those of another one."""
    numbers = list(numbers)
    for day in range(len(numbers)):
        if day % length == heavy:
            numbers[day] -= by
        if day % length == light:
            numbers[day] += by
    return numbers


def room_to_move(numbers, length, most, heavy, light):
    return min(min(numbers[heavy::length]), most - max(numbers[light::length]))


def least_weighed(numbers, length, most, weights):
    """The way with the least weight, a weight for each day, from any way: what helps is moved until nothing does."""
    classes = [sum(weights[start::length]) for start in range(length)]
    pairs = [(heavy, light) for heavy in range(length) for light in range(length) if classes[heavy] > classes[light]]
    while True:
        rooms = [(room_to_move(numbers, length, most, heavy, light), heavy, light) for heavy, light in pairs]
        by, heavy, light = max(rooms, default=(0, 0, 0))
        if by == 0:
            return numbers
        numbers = moved(numbers, length, heavy, light, by)


def weighed_range(numbers, length, most, weights):
    """The least and the greatest weight over all ways that have the same sums as this one."""
    least = least_weighed(numbers, length, most, weights)
    greatest = least_weighed(numbers, length, most, [-weight for weight in weights])
    return tuple(sum(number * weight for number, weight in zip(way, weights)) for way in (least, greatest))


def weights_of(days, count):
    return [1 if day in days else 0 for day in range(count)]


def next_way(numbers, length, most):
    """The way next to this one, ascending, or None."""
    for start in range(length - 2, -1, -1):
        for later in range(length - 1, start, -1):
            if room_to_move(numbers, length, most, later, start) > 0:
                numbers = moved(numbers, length, later, start, 1)
                for heavy in range(start + 1, length):
                    for light in range(length - 1, heavy, -1):
                        by = room_to_move(numbers, length, most, heavy, light)
                        numbers = moved(numbers, length, heavy, light, by)
                return numbers
    return None


def count_step_by_step(numbers, length, most):
    """How many ways have the sums of this one, class by class over all totals; for a small most."""
    counts = {0: 1}
    for start in range(length):
        row = numbers[start::length]
        found = {}
        for total, many in counts.items():
            for by in range(-min(row), most - max(row) + 1):
                found[total + by] = found.get(total + by, 0) + many
        counts = found
    return counts[0]


def without_class(numbers, length, start):
    """The days of all other classes; each length - 1 of these in a row are one of each of them."""
    return [number for day, number in enumerate(numbers) if day % length != start]


def matrix_of(count, length):
    """The factors of each sum of a row of days."""
    return [[1 if at <= day < at + length else 0 for day in range(count)] for at in range(count - length + 1)]


def ring_matrix_of(count, length):
    """The factors of each sum of a ring of days."""
    return [[1 if (day - at) % count < length else 0 for day in range(count)] for at in range(count)]


def has_integers(rows, totals):
    """Whether some integers give each row of factors its total, by taking columns off one another."""
    columns = [list(column) for column in zip(*rows)]
    rest = list(totals)
    for at in range(len(rows)):
        while True:
            found = sorted((column for column in columns if column[at] != 0), key=lambda column: abs(column[at]))
            if len(found) < 2:
                break
            for column in found[1:]:
                times = column[at] // found[0][at]
                column[:] = [number - times * less for number, less in zip(column, found[0])]
        if found:
            if rest[at] % found[0][at] != 0:
                return False
            times = rest[at] // found[0][at]
            rest = [number - times * less for number, less in zip(rest, found[0])]
            columns = [column for column in columns if column is not found[0]]
        elif rest[at] != 0:
            return False
    return True


def variants_of(days, count):
    """A closed list of days turned about, begun elsewhere, longer, and bent; which of these are closed is not said."""
    yield days[::-1]
    for at in range(1, len(days) - 1):
        yield days[at:] + days[1:at + 1]
    yield days + days[1:]
    yield days + days[-2:-1] + days[-1:]
    yield days[:-1]
    yield days[1:]
    yield days + days[:1]
    for at in range(len(days)):
        for by in (-1, 1):
            yield days[:at] + [days[at] + by] + days[at + 1:]
    for day in (-1, count, -count, count + 1, TOP):
        yield [day] + days[1:-1] + [day]
        yield days[:1] + [day] + days[1:]


def any_objects(days):
    """Any objects that are no word and list of days, made of a list of days."""
    deep = [1]
    for _ in range(19):
        deep = [deep]
    for word in ("ring", "parts", "walk"):
        yield (word, tuple(days))
        yield [word, days]
        yield (word, days, days)
        yield (word, days, None)
        yield (word,)
        yield (days, word)
        yield {word: days}
        yield (word, {"days": days})
        yield (word, [days])
        yield (word, None)
        yield (word, word)
        yield (word, 0)
        yield (word, deep)
        yield ((word, days),)
        for at, day in enumerate(days):
            for odd in (str(day), [day], (day,), None, {}, bool(day), deep):
                yield (word, days[:at] + [odd] + days[at + 1:])
    for word in ("Ring", "", "rings", "ring ", "apart", "low", "high", "open", 0, None, True, ("ring",), ["ring"]):
        yield (word, days)
        yield (word, [])
    for thing in (None, True, False, 0, 1, "ring", "parts", "", (), [], {}, days, tuple(days), deep, [0] * 3999,
                  ("parts", ()), ("parts", {}), ("parts", ""), ("parts", None), ("parts", 0), ("parts", False),
                  ["parts", []], ("parts",), ("parts", [], []), ("parts", [[]]), ("parts", [0]), ("ring", []),
                  ("ring", ()), ("ring", [0]), ("ring", [0, 0, 0, 0]) * 3):
        yield thing
