import unittest
from itertools import combinations

import plainly
from weeksums.errors import Impossible
from weeksums.ranges import (all_ranges, certain_days, day_range, difference_range, next_range, row_range,
                             total_range)
from weeksums.ways import conflict_of

TOP = plainly.TOP
MOSTS = (1, 2, 10 ** 15, TOP - 1, TOP)


def calls_without_a_way():
    """Sums without a way, and a call of each function with them."""
    for sums, length, most in (([4, 5, 15], 2, 9), ([-1, -1], 2, 9), ([99, 99], 2, 9), ([1], 1, 0)):
        yield (sums, length, most), (
            (day_range, [0]), (all_ranges, []), (certain_days, []), (row_range, [0, 1]), (row_range, [1, 1]),
            (total_range, [[0]]), (total_range, [[]]), (difference_range, [0, 0]), (next_range, []),
        )


class Ordinary(unittest.TestCase):
    # The ways are [x, 4 - x, x + 1, 4 - x, x + 2] for x from 0 to 4.
    told = ([4, 5, 5, 6], 2, 9)

    def test_day_range(self):
        found = [day_range(*self.told, day) for day in range(5)]
        self.assertEqual(found, [(0, 4), (0, 4), (1, 5), (0, 4), (2, 6)])

    def test_the_most_bounds_the_ranges(self):
        found = [day_range([4, 5, 5, 6], 2, 5, day) for day in range(5)]
        self.assertEqual(found, [(0, 3), (1, 4), (1, 4), (1, 4), (2, 5)])

    def test_all_ranges(self):
        self.assertEqual(all_ranges(*self.told), [(0, 4), (0, 4), (1, 5), (0, 4), (2, 6)])
        self.assertEqual(all_ranges([4, 5, 5, 6], 2, 3), [(1, 1), (3, 3), (2, 2), (3, 3), (3, 3)])

    def test_certain_days(self):
        self.assertEqual(certain_days(*self.told), [])
        self.assertEqual(certain_days([4, 5, 5, 6], 2, 3), [(0, 1), (1, 3), (2, 2), (3, 3), (4, 3)])
        # Days 1 and 4 differ by the most, the others have room.
        self.assertEqual(certain_days([9, 8], 3, 4), [])
        self.assertEqual(certain_days([4, 5, 9], 3, 4), [(1, 0), (4, 4)])
        self.assertEqual(all_ranges([4, 5, 9], 3, 4), [(0, 3), (0, 0), (1, 4), (1, 4), (4, 4)])

    def test_row_range(self):
        self.assertEqual(row_range(*self.told, 0, 3), (5, 9))
        self.assertEqual(row_range(*self.told, 0, 2), (4, 4))
        self.assertEqual(row_range(*self.told, 1, 4), (5, 9))
        self.assertEqual(row_range(*self.told, 0, 5), (11, 15))
        self.assertEqual(row_range(*self.told, 4, 5), (2, 6))

    def test_row_range_of_no_day(self):
        for at in range(6):
            self.assertEqual(row_range(*self.told, at, at), (0, 0))

    def test_total_range(self):
        self.assertEqual(total_range(*self.told, []), (0, 0))
        self.assertEqual(total_range(*self.told, [3]), (0, 4))
        self.assertEqual(total_range(*self.told, [3, 1]), (0, 8))
        self.assertEqual(total_range(*self.told, [4, 0]), (2, 10))
        self.assertEqual(total_range(*self.told, [0, 1]), (4, 4))
        self.assertEqual(total_range(*self.told, [4, 1, 3, 0, 2]), (11, 15))

    def test_difference_range(self):
        self.assertEqual(difference_range(*self.told, 0, 1), (-4, 4))
        self.assertEqual(difference_range(*self.told, 1, 0), (-4, 4))
        self.assertEqual(difference_range(*self.told, 3, 4), (-2, 6))
        self.assertEqual(difference_range(*self.told, 4, 3), (-6, 2))
        self.assertEqual(difference_range(*self.told, 0, 4), (2, 2))
        self.assertEqual(difference_range(*self.told, 4, 0), (-2, -2))
        for day in range(5):
            self.assertEqual(difference_range(*self.told, day, day), (0, 0))

    def test_next_range(self):
        # The next sum is 6 + y - (4 - x), with y from 0 to 9.
        self.assertEqual(next_range(*self.told), (2, 15))
        self.assertEqual(next_range([4, 5, 5, 6], 2, 3), (3, 6))
        self.assertEqual(next_range([3, 1], 1, 5), (0, 5))
        self.assertEqual(next_range([13], 4, 5), (8, 18))
        self.assertEqual(next_range([0], 8, 5), (0, 5))
        self.assertEqual(next_range([40], 8, 5), (35, 40))

    def test_a_most_of_0(self):
        told = ([0, 0, 0], 3, 0)
        self.assertEqual(all_ranges(*told), [(0, 0)] * 5)
        self.assertEqual(certain_days(*told), [(day, 0) for day in range(5)])
        self.assertEqual(row_range(*told, 1, 5), (0, 0))
        self.assertEqual(total_range(*told, [4, 2]), (0, 0))
        self.assertEqual(difference_range(*told, 4, 2), (0, 0))
        self.assertEqual(next_range(*told), (0, 0))

    def test_without_a_way(self):
        for told, calls in calls_without_a_way():
            conflict = conflict_of(*told)
            for call, others in calls:
                with self.assertRaises(Impossible) as caught:
                    call(*told, *others)
                self.assertEqual((caught.exception.word, caught.exception.days), conflict, call.__name__)


class AllWays(unittest.TestCase):
    def test_day_range_all_ranges_and_certain_days(self):
        for sums, length, most, ways in plainly.rows_with_ways():
            ranges = [plainly.ends([way[day] for way in ways]) for day in range(len(ways[0]))]
            self.assertEqual([day_range(sums, length, most, day) for day in range(len(ways[0]))], ranges)
            self.assertEqual(all_ranges(sums, length, most), ranges)
            certain = [(day, low) for day, (low, high) in enumerate(ranges) if low == high]
            self.assertEqual(certain_days(sums, length, most), certain)

    def test_row_range(self):
        for sums, length, most, ways in plainly.rows_with_ways():
            for first in range(len(ways[0]) + 1):
                for beyond in range(first, len(ways[0]) + 1):
                    told = plainly.ends([sum(way[first:beyond]) for way in ways])
                    self.assertEqual(row_range(sums, length, most, first, beyond), told)

    def test_total_range(self):
        for sums, length, most, ways in plainly.rows_with_ways():
            count = len(ways[0])
            for many in range(count + 1):
                for days in list(combinations(range(count), many))[:40]:
                    told = plainly.ends([sum([way[day] for day in days]) for way in ways])
                    self.assertEqual(total_range(sums, length, most, list(days)), told)
                    self.assertEqual(total_range(sums, length, most, list(days)[::-1]), told)

    def test_difference_range(self):
        for sums, length, most, ways in plainly.rows_with_ways():
            for first in range(len(ways[0])):
                for second in range(len(ways[0])):
                    told = plainly.ends([way[second] - way[first] for way in ways])
                    self.assertEqual(difference_range(sums, length, most, first, second), told)

    def test_next_range(self):
        lengths = set()
        for sums, length, most, ways in plainly.rows_with_ways():
            later = range(-1, length * most + 2)
            possible = [told for told in later if plainly.all_ways(sums + [told], length, most)]
            self.assertEqual(next_range(sums, length, most), plainly.ends(possible))
            lengths.add(length)
        self.assertEqual(lengths, set(range(1, 9)))

    def test_wider_numbers(self):
        for length, most in ((2, 9), (3, 5), (4, 3)):
            for seed in range(30):
                numbers = plainly.numbers_of_many_digits(length + 4, most, seed)
                sums = plainly.sums_by_hand(numbers, length)
                ways = plainly.all_ways(sums, length, most)
                days = [day for day in range(length + 4) if numbers[day] % 2]
                ranges = [plainly.ends([way[day] for way in ways]) for day in range(length + 4)]
                self.assertEqual(all_ranges(sums, length, most), ranges)
                told = plainly.ends([sum([way[day] for day in days]) for way in ways])
                self.assertEqual(total_range(sums, length, most, days), told)
                self.assertEqual(plainly.weighed_range(numbers, length, most, plainly.weights_of(days, length + 4)), told)

    def test_without_a_way(self):
        for sums, length, most in plainly.small_rows():
            told = plainly.told_conflict(sums, length, most)
            if told is None:
                continue
            for call, others in ((day_range, [0]), (all_ranges, []), (certain_days, []), (row_range, [0, 0]),
                                 (total_range, [[]]), (difference_range, [0, 0]), (next_range, [])):
                with self.assertRaises(Impossible) as caught:
                    call(sums, length, most, *others)
                self.assertEqual((caught.exception.word, caught.exception.days), told)


class Days67(unittest.TestCase):
    def test_day_range_and_all_ranges(self):
        for most in MOSTS:
            for length, numbers in plainly.lists_of_67_days(most):
                sums = plainly.sums_by_hand(numbers, length)
                starts = [plainly.weighed_range(numbers, length, most, plainly.weights_of([day], 67))
                          for day in range(length)]
                told = [(starts[day % length][0] + numbers[day] - numbers[day % length],
                         starts[day % length][1] + numbers[day] - numbers[day % length]) for day in range(67)]
                self.assertEqual(all_ranges(sums, length, most), told)
                for day in (0, 1, 33, 65, 66):
                    self.assertEqual(day_range(sums, length, most, day), told[day])
                certain = [(day, low) for day, (low, high) in enumerate(told) if low == high]
                self.assertEqual(certain_days(sums, length, most), certain)

    def test_row_range(self):
        for length, numbers in plainly.lists_of_67_days(TOP):
            sums = plainly.sums_by_hand(numbers, length)
            for first, beyond in ((0, 67), (0, 1), (66, 67), (3, 3), (0, 0), (67, 67), (2, 11), (30, 30 + length),
                                  (13, 59), (1, 67)):
                told = plainly.weighed_range(numbers, length, TOP, plainly.weights_of(range(first, beyond), 67))
                self.assertEqual(row_range(sums, length, TOP, first, beyond), told)

    def test_total_range(self):
        for length, numbers in plainly.lists_of_67_days(TOP):
            sums = plainly.sums_by_hand(numbers, length)
            odd = [day for day in range(67) if numbers[day] % 3 == 1]
            for days in ([], [66], odd, odd[::-1], [66, 0, 31], list(range(67)), list(range(0, 67, 2))[::-1]):
                told = plainly.weighed_range(numbers, length, TOP, plainly.weights_of(days, 67))
                self.assertEqual(total_range(sums, length, TOP, days), told)

    def test_difference_range(self):
        for length, numbers in plainly.lists_of_67_days(TOP):
            sums = plainly.sums_by_hand(numbers, length)
            for first, second in ((0, 66), (66, 0), (1, 2), (5, 5), (40, 31), (10, 10 + length)):
                weights = [0] * 67
                weights[second] += 1
                weights[first] -= 1
                told = plainly.weighed_range(numbers, length, TOP, weights)
                self.assertEqual(difference_range(sums, length, TOP, first, second), told)

    def test_next_range(self):
        for length, numbers in plainly.lists_of_67_days(TOP):
            sums = plainly.sums_by_hand(numbers, length)
            # The last sum of these is the next one of the others.
            low, high = next_range(sums[:-1], length, TOP)
            self.assertTrue(0 <= low <= sums[-1] <= high <= length * TOP)
            for told, there_is_a_way in ((low - 1, False), (low, True), (high, True), (high + 1, False)):
                conflict = plainly.told_conflict(sums[:-1] + [told], length, TOP)
                self.assertEqual(conflict is None, there_is_a_way)

    def test_next_range_of_67_days(self):
        for length, numbers in plainly.lists_of_67_days(TOP):
            sums = plainly.sums_by_hand(numbers, length)
            weights = plainly.weights_of([67 - length], 67)
            low, high = plainly.weighed_range(numbers, length, TOP, weights)
            self.assertEqual(next_range(sums, length, TOP), (sums[-1] - high, sums[-1] - low + TOP))

    def test_certain_days_beside_others(self):
        for length in range(3, 9):
            numbers = plainly.narrow_list(length, 1, 0, TOP)
            sums = plainly.sums_by_hand(numbers, length)
            told = [(day, numbers[day]) for day in range(67) if day % length == 1]
            self.assertEqual(certain_days(sums, length, TOP), told)

    def test_all_days_are_certain_where_there_is_one_way(self):
        for length in range(1, 9):
            sums = [length * TOP] * (68 - length)
            self.assertEqual(certain_days(sums, length, TOP), [(day, TOP) for day in range(67)])
            self.assertEqual(all_ranges(sums, length, TOP), [(TOP, TOP)] * 67)
            self.assertEqual(row_range(sums, length, TOP, 0, 67), (67 * TOP, 67 * TOP))
            self.assertEqual(next_range(sums, length, TOP), ((length - 1) * TOP, length * TOP))


if __name__ == "__main__":
    unittest.main()
