import unittest
from itertools import product
from math import gcd

import plainly
from checking import Arguments
from weeksums import errors
from weeksums.rings import ring_least, ring_line, ring_sums, ring_ways, shows_open

TOP = plainly.TOP
SIZES = [(count, length) for count in range(1, 61) for length in range(1, min(8, count) + 1)]


def sums_round(numbers, length):
    sums = []
    for day in range(len(numbers)):
        total = 0
        for by in range(length):
            total = total + numbers[(day + by) % len(numbers)]
        sums.append(total)
    return sums


def is_round(sums, length, days):
    """Whether a list of integers is a round of days, a length apart, that do not add up to 0."""
    count = len(sums)
    if len(days) < 2 or any(day < 0 or day >= count for day in days):
        return False
    if days[0] != days[-1] or days[0] in days[1:-1]:
        return False
    rises = []
    for first, second in zip(days, days[1:]):
        if (first + length) % count != second:
            return False
        rises.append(sums[(first + 1) % count] - sums[first])
    return sum(rises) != 0


def all_rounds(count, length):
    for start in range(count):
        days = [start, (start + length) % count]
        while days[-1] != start:
            days.append((days[-1] + length) % count)
        yield days


def have_some(sums, length):
    return plainly.has_integers(plainly.ring_matrix_of(len(sums), length), sums)


def drawn(count, seed):
    """Lists of integers: small ones, ones below 0, ones of 30 digits."""
    numbers = plainly.numbers_of_many_digits(count, 9, seed)
    yield numbers
    yield [-number for number in numbers]
    yield [number - TOP // 2 for number in plainly.numbers_of_many_digits(count, TOP, seed + 1)]


def changed_sums(sums, length):
    """The sums, and changed ones that are of a ring no more or of another one."""
    count = len(sums)
    part = gcd(count, length)
    yield sums
    for by in (1, -3, TOP):
        for at in {0, count // 2, count - 1}:
            yield sums[:at] + [sums[at] + by] + sums[at + 1:]
        # One class of days that are part apart, or all sums alike.
        for start in {0, part - 1}:
            yield [told + by * (at % part == start) for at, told in enumerate(sums)]
        yield [told + by for told in sums]
        yield [told + by * (at < 2) for at, told in enumerate(sums)]
    if count > part:
        # Up at one day and down at another one of its class: the rises of each round stay in all.
        yield [told + (at == 0) - (at == part) for at, told in enumerate(sums)]


class Ordinary(unittest.TestCase):
    def test_ring_sums(self):
        self.assertEqual(ring_sums([3, 1, 4, 1, 5], 2), [4, 5, 5, 6, 8])
        self.assertEqual(ring_sums([3, 1, 4, 1, 5], 5), [14] * 5)
        self.assertEqual(ring_sums([3, 1, 4, 1, 5], 1), [3, 1, 4, 1, 5])
        self.assertEqual(ring_sums([7], 1), [7])
        self.assertEqual(ring_sums([-7, 2], 2), [-5, -5])

    def test_ring_line(self):
        self.assertEqual(ring_line([4, 5, 5, 6, 8], 2), [3, 1, 4, 1, 5])
        self.assertEqual(ring_line([4, 5, 5, 4], 2), [4, 5, 5])
        self.assertEqual(ring_line([14] * 5, 5), [14])
        self.assertEqual(ring_line([3, 1, 4], 1), [3, 1, 4])
        self.assertEqual(ring_line([7], 1), [7])
        self.assertEqual(ring_line(ring_sums([1, 2, 3, 4, 5, 6], 4), 4), [3, 5, 7, 9, 11])

    def test_a_ring_that_is_open(self):
        for days in ([0, 2, 0], [2, 0, 2], [1, 3, 1], [3, 1, 3]):
            self.assertIs(shows_open([4, 5, 5, 5], 2, ("ring", days)), True)
            self.assertIs(shows_open([4, 5, 5, 4], 2, ("ring", days)), False)
        with self.assertRaises(errors.Disagree) as caught:
            ring_line([4, 5, 5, 5], 2)
        self.assertEqual(caught.exception.word, "ring")
        self.assertTrue(is_round([4, 5, 5, 5], 2, caught.exception.days))
        self.assertIs(shows_open([4, 5, 5, 5], 2, ("parts", [])), False)
        self.assertEqual(ring_ways([4, 5, 5, 5], 2, 9), 0)
        self.assertIsNone(ring_least([4, 5, 5, 5], 2, 9))

    def test_parts(self):
        # All days of a ring of 3 come twice in the sums of 2.
        self.assertEqual(ring_line([1, 2, 3], 2), [1, 0, 2])
        with self.assertRaises(errors.Disagree) as caught:
            ring_line([1, 2, 4], 2)
        self.assertEqual((caught.exception.word, caught.exception.days), ("parts", []))
        self.assertIs(shows_open([1, 2, 4], 2, ("parts", [])), True)
        self.assertEqual(ring_ways([1, 2, 4], 2, 9), 0)
        self.assertIsNone(ring_least([1, 2, 4], 2, 9))

    def test_a_length_of_all_days(self):
        for count in range(2, 9):
            told = [5] * (count - 1) + [6]
            self.assertIs(shows_open(told, count, ("ring", [count - 2, count - 2])), True)
            self.assertIs(shows_open(told, count, ("ring", [count - 1, count - 1])), True)
            if count > 2:
                self.assertIs(shows_open(told, count, ("ring", [0, 0])), False)
            with self.assertRaises(errors.Disagree) as caught:
                ring_line(told, count)
            self.assertEqual(caught.exception.word, "ring")
            self.assertTrue(is_round(told, count, caught.exception.days))

    def test_ring_ways_and_ring_least(self):
        # [x, 4 - x, x + 1, 4 - x] for x from 0 to 4
        self.assertEqual(ring_ways([4, 5, 5, 4], 2, 9), 5)
        self.assertEqual(ring_least([4, 5, 5, 4], 2, 9), [0, 4, 1, 4])
        self.assertEqual(ring_least([4, 5, 5, 4], 2, 3), [1, 3, 2, 3])
        self.assertEqual(ring_ways([4, 5, 5, 4], 2, 3), 2)
        self.assertEqual(ring_ways([4, 5, 5, 4], 2, 2), 0)
        self.assertIsNone(ring_least([4, 5, 5, 4], 2, 2))
        self.assertEqual(ring_ways([4, 5, 5, 6, 8], 2, 5), 1)
        self.assertEqual(ring_least([4, 5, 5, 6, 8], 2, 5), [3, 1, 4, 1, 5])
        self.assertEqual(ring_ways([4, 5, 5, 6, 8], 2, 4), 0)
        self.assertEqual(ring_ways([2, 2], 2, 2), 3)
        self.assertEqual(ring_ways([-1, -1], 2, 2), 0)
        self.assertEqual(ring_ways([0], 1, 0), 1)


class Lines(unittest.TestCase):
    def test_ring_sums_by_adding(self):
        for count, length in SIZES:
            for numbers in drawn(count, count + 99 * length):
                self.assertEqual(ring_sums(numbers, length), sums_round(numbers, length))

    def test_ring_line_of_one_list(self):
        for count, length in SIZES:
            part = gcd(count, length)
            for numbers in drawn(count, count + 99 * length):
                sums = sums_round(numbers, length)
                self.assertEqual(ring_line(sums, length), plainly.sums_by_hand(numbers, part))
                self.assertIs(shows_open(sums, length, ("parts", [])), False)

    def check_sums(self, sums, length, common):
        """What is told of sums, against whether some list has them."""
        count = len(sums)
        rounds = [days for days in all_rounds(count, length) if is_round(sums, length, days)]
        for days in all_rounds(count, length):
            self.assertIs(shows_open(sums, length, ("ring", days)), days in rounds)
        if common:
            self.assertEqual(rounds, [])
            numbers = plainly.some_list(ring_line(sums, length), gcd(count, length))
            self.assertEqual(sums_round(numbers, length), sums)
            self.assertIs(shows_open(sums, length, ("parts", [])), False)
            return "common"
        error = None
        try:
            ring_line(sums, length)
        except errors.Disagree as caught:
            error = caught
        self.assertIsNotNone(error, (sums, length))
        self.assertIs(shows_open(sums, length, (error.word, error.days)), True)
        self.assertIs(shows_open(sums, length, ("parts", [])), not rounds)
        self.assertEqual(error.word, "ring" if rounds else "parts")
        self.assertIn(error.days, rounds or [[]])
        self.assertEqual(ring_ways(sums, length, TOP), 0)
        self.assertIsNone(ring_least(sums, length, TOP))
        return error.word

    def test_changed_sums(self):
        found = set()
        for count, length in SIZES:
            if count > 18:
                continue
            numbers = plainly.numbers_of_many_digits(count, 9, count + 99 * length)
            for sums in changed_sums(sums_round(numbers, length), length):
                found.add((length, self.check_sums(sums, length, have_some(sums, length))))
        words = {(length, word) for length in range(1, 9) for word in ("common", "ring", "parts")}
        # A ring of length 1 is never open.
        self.assertEqual(found, words - {(1, "ring"), (1, "parts")})

    def test_changed_sums_of_many_days(self):
        found = set()
        for count in (19, 24, 31, 40, 42, 56, 59, 60):
            for length in range(1, 9):
                numbers = plainly.numbers_of_many_digits(count, TOP, count + length)
                numbers = [number - TOP for number in numbers]
                for sums in changed_sums(sums_round(numbers, length), length):
                    part = gcd(count, length)
                    # The numbers of the first days from the rises alone, and then whether the totals agree.
                    rest = sums[0] - sum(self.lifted(sums, length))
                    closed = not any(is_round(sums, length, days) for days in all_rounds(count, length))
                    common = closed and rest % (length // part) == 0
                    found.add(self.check_sums(sums, length, common))
        self.assertEqual(found, {"common", "ring", "parts"})

    def lifted(self, sums, length):
        """The numbers of the first days of the sum, if the least day of each round has 0."""
        count = len(sums)
        numbers = {}
        for start in range(gcd(count, length)):
            numbers[start] = 0
            day = start
            while (day + length) % count not in numbers:
                numbers[(day + length) % count] = numbers[day] + sums[(day + 1) % count] - sums[day]
                day = (day + length) % count
        return [numbers[day] for day in range(length)]


class AllLists(unittest.TestCase):
    def test_how_many_and_the_least(self):
        for count in range(1, 9):
            for length in range(1, min(8, count) + 1):
                for most in (0, 1, 2, 3) if count < 6 else (1,):
                    self.check_size(count, length, most)

    def check_size(self, count, length, most):
        found = {}
        for numbers in product(range(most + 1), repeat=count):
            found.setdefault(tuple(sums_round(numbers, length)), []).append(list(numbers))
        for sums, lists in found.items():
            self.assertEqual(ring_ways(list(sums), length, most), len(lists), (sums, length, most))
            self.assertEqual(ring_least(list(sums), length, most), lists[0], (sums, length, most))
            for at in (0, count - 1):
                odd = list(sums)
                odd[at] += 1
                lists = found.get(tuple(odd), [])
                self.assertEqual(ring_ways(odd, length, most), len(lists), (odd, length, most))
                self.assertEqual(ring_least(odd, length, most), lists[0] if lists else None)

    def test_all_sums_of_a_few_days(self):
        for count, length, most in ((1, 1, 2), (2, 1, 2), (2, 2, 2), (3, 2, 2), (3, 3, 1), (4, 2, 1), (4, 3, 1), (4, 4, 1)):
            found = {}
            for numbers in product(range(most + 1), repeat=count):
                found.setdefault(tuple(sums_round(numbers, length)), []).append(list(numbers))
            for sums in product(range(-1, length * most + 2), repeat=count):
                lists = found.get(sums, [])
                self.assertEqual(ring_ways(list(sums), length, most), len(lists))
                self.assertEqual(ring_least(list(sums), length, most), lists[0] if lists else None)

    def test_many_days(self):
        for count in (13, 24, 42, 56, 60):
            for length in range(1, 9):
                part = gcd(count, length)
                numbers = plainly.numbers_of_many_digits(count, 5, count + length)
                sums = sums_round(numbers, length)
                for most in (5, 7):
                    told = plainly.count_step_by_step(numbers, part, most)
                    self.assertEqual(ring_ways(sums, length, most), told)
                    self.check_least(sums, length, most)
                self.assertEqual(ring_ways(sums, length, max(numbers) - 1 if part == 1 else 0), 0)

    def check_least(self, sums, length, most):
        part = gcd(len(sums), length)
        least = ring_least(sums, length, most)
        self.assertEqual(sums_round(least, length), sums)
        self.assertTrue(0 <= min(least) and max(least) <= most)
        for start in range(part):
            for later in range(start + 1, part):
                self.assertEqual(plainly.room_to_move(least, part, most, start, later), 0)

    def test_numbers_of_30_digits(self):
        for count in (8, 35, 48, 56, 60):
            for length in range(1, 9):
                for most in (TOP - 1, TOP):
                    numbers = plainly.numbers_of_many_digits(count, most // 2, count + length)
                    sums = sums_round(numbers, length)
                    self.check_least(sums, length, most)
                    many = ring_ways(sums, length, most)
                    self.assertEqual(many > 1, gcd(count, length) > 1)
                    lowered = [told - length * TOP for told in sums]
                    self.assertEqual(ring_ways(lowered, length, most), 0)
                    self.assertIsNone(ring_least(lowered, length, most))


class Shows(unittest.TestCase):
    def opened(self):
        for count, length in ((4, 2), (6, 4), (6, 2), (9, 6), (8, 8), (60, 8), (60, 4), (56, 7), (3, 3)):
            sums = sums_round(plainly.numbers_of_many_digits(count, 9, count), length)
            sums[count // 2] += 5
            with self.assertRaises(errors.Disagree) as caught:
                ring_line(sums, length)
            self.assertEqual(caught.exception.word, "ring")
            yield sums, length, caught.exception.days

    def test_the_round_in_other_forms(self):
        answers = set()
        for sums, length, days in self.opened():
            self.assertIs(shows_open(sums, length, ("ring", days)), True)
            for other in plainly.variants_of(days, len(sums)):
                answer = shows_open(sums, length, ("ring", other))
                self.assertIs(answer, is_round(sums, length, other), (sums, length, other))
                answers.add(answer)
        self.assertEqual(answers, {True, False})

    def test_any_objects(self):
        for sums, length, days in self.opened():
            for thing in plainly.any_objects(days):
                self.assertIs(shows_open(sums, length, thing), False, thing)
        self.assertIs(shows_open([1, 2, 4], 2, ("parts", [])), True)
        for sums in ([1, 2, 4], [1, 2, 3]):
            for thing in list(plainly.any_objects([0, 2, 1, 0])) + [("ring", [0, 2, 1, 0]), ("ring", [1, 0, 2, 1])]:
                self.assertIs(shows_open(sums, 2, thing), False, thing)

    def test_once_round_is_all(self):
        for sums, length, days in self.opened():
            self.assertIs(shows_open(sums, length, ("ring", days + days[1:])), False)


class Wrong(Arguments):
    def test_60_days_and_one_more(self):
        for length in range(1, 9):
            part = gcd(60, length)
            self.assertEqual(ring_sums([0] * 60, length), [0] * 60)
            self.assertEqual(ring_line([0] * 60, length), [0] * (61 - part))
            self.assertEqual(ring_ways([0] * 60, length, TOP), 1)
            self.assertEqual(ring_least([0] * 60, length, TOP), [0] * 60)
            self.check_error(errors.InvalidNumbers, ring_sums, ([0] * 61, length))
            self.check_error(errors.InvalidSums, ring_line, ([0] * 61, length))
            self.check_error(errors.InvalidSums, shows_open, ([0] * 61, length, None))
            self.check_error(errors.InvalidSums, ring_ways, ([0] * 61, length, TOP))
            self.check_error(errors.InvalidSums, ring_least, ([0] * 61, length, TOP))

    def test_lengths(self):
        for count in range(1, 12):
            for length in (-1, 0, *range(1, 12), TOP):
                row = [1] * count
                if 1 <= length <= min(8, count):
                    self.assertEqual(ring_sums(row, length), [length] * count)
                    self.assertEqual(ring_least([length] * count, length, 1), row)
                else:
                    self.check_error(errors.InvalidLength, ring_sums, (row, length))
                    self.check_error(errors.InvalidLength, ring_line, (row, length))
                    self.check_error(errors.InvalidLength, shows_open, (row, length, ("parts", [])))
                    self.check_error(errors.InvalidLength, ring_ways, (row, length, -1))
                    self.check_error(errors.InvalidLength, ring_least, (row, length, -1))

    def test_the_most(self):
        for sums in ([4, 5, 5, 4], [4, 5, 5, 5], [1, 2, 4]):
            for most in (-1, TOP + 1, True, None):
                self.check_error(errors.InvalidMost, ring_ways, (sums, 2, most))
                self.check_error(errors.InvalidMost, ring_least, (sums, 2, most))

    def test_the_lists_of_errors_are_new(self):
        for sums in ([4, 5, 5, 5], [1, 2, 4]):
            first = self.check_error(errors.Disagree, ring_line, (sums, 2))
            second = self.check_error(errors.Disagree, ring_line, (sums, 2))
            self.assertEqual((first.word, first.days), (second.word, second.days))
            first.days.append(99)
            self.assertNotIn(99, second.days)


if __name__ == "__main__":
    unittest.main()
