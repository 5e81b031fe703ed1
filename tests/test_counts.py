import unittest
from math import comb

import plainly
from weeksums.counts import count_ways, count_with, nth_way, way_index
from weeksums.errors import Impossible, InvalidDay, InvalidIndex, InvalidWay
from weeksums.ranges import day_range
from weeksums.ways import conflict_of, greatest_way, is_way, least_way

TOP = plainly.TOP
WITHOUT_A_WAY = (([4, 5, 15], 2, 9), ([-1, -1], 2, 9), ([99, 99], 2, 9), ([1], 1, 0))


def drawn_indices(many):
    """Some indices from 0 to below this, the first and the last among them, ascending."""
    found = {0, many - 1, many // 2, many // 3, min(1, many - 1), max(0, many - 2)}
    for seed in range(4):
        found.add(int("".join(map(str, plainly.numbers_of_many_digits(8, TOP, seed)))) % many)
    return sorted(found)


class Ordinary(unittest.TestCase):
    # The ways are [x, 4 - x, x + 1, 4 - x, x + 2] for x from 0 to 4.
    told = ([4, 5, 5, 6], 2, 9)

    def test_count_ways(self):
        self.assertEqual(count_ways(*self.told), 5)
        self.assertEqual(count_ways([4, 5, 5, 6], 2, 4), 3)
        self.assertEqual(count_ways([4, 5, 5, 6], 2, 3), 1)
        self.assertEqual(count_ways([3, 1], 1, 3), 1)
        self.assertEqual(count_ways([3], 3, 9), 10)
        self.assertEqual(count_ways([3], 3, 2), 7)
        self.assertEqual(count_ways([4], 8, 1), 70)

    def test_count_ways_is_0_for_none(self):
        self.assertEqual(count_ways([4, 5, 5, 6], 2, 2), 0)
        for told in WITHOUT_A_WAY:
            self.assertEqual(count_ways(*told), 0)

    def test_nth_way(self):
        found = [nth_way(*self.told, index) for index in range(5)]
        self.assertEqual(found, [[x, 4 - x, x + 1, 4 - x, x + 2] for x in range(5)])
        found = [nth_way([2], 3, 9, index) for index in range(6)]
        self.assertEqual(found, [[0, 0, 2], [0, 1, 1], [0, 2, 0], [1, 0, 1], [1, 1, 0], [2, 0, 0]])

    def test_way_index(self):
        for x in range(5):
            self.assertEqual(way_index(*self.told, [x, 4 - x, x + 1, 4 - x, x + 2]), x)
        self.assertEqual(way_index([2], 3, 9, [1, 0, 1]), 3)

    def test_count_with(self):
        self.assertEqual([count_with(*self.told, 4, number) for number in range(-1, 9)], [0, 0, 0, 1, 1, 1, 1, 1, 0, 0])
        self.assertEqual([count_with([3], 3, 9, 1, number) for number in range(5)], [4, 3, 2, 1, 0])
        self.assertEqual([count_with([3], 3, 2, 1, number) for number in range(5)], [2, 3, 2, 0, 0])

    def test_count_with_takes_any_integer(self):
        for number in (-1, 10, -TOP, TOP, 10 ** 40, -(10 ** 40)):
            self.assertEqual(count_with(*self.told, 0, number), 0)
            self.assertEqual(count_with([0], 1, 0, 0, number), 0)

    def test_a_most_of_0(self):
        for length in range(1, 9):
            told = ([0, 0, 0], length, 0)
            self.assertEqual(count_ways(*told), 1)
            self.assertEqual(nth_way(*told, 0), [0] * (length + 2))
            self.assertEqual(way_index(*told, [0] * (length + 2)), 0)
            self.assertEqual([count_with(*told, length + 1, number) for number in (-1, 0, 1)], [0, 1, 0])
            with self.assertRaises(InvalidIndex):
                nth_way(*told, 1)

    def test_an_index_that_is_not_there(self):
        for index in (-1, -5, -TOP, 5, 6, 10 ** 299, 10 ** 300 - 1):
            with self.assertRaises(InvalidIndex):
                nth_way(*self.told, index)

    def test_a_way_that_is_none(self):
        way = [3, 1, 4, 1, 5]
        self.assertEqual(way_index(*self.told, way), 3)
        things = [None, True, 3, "31415", "", tuple(way), {}, {"0": 3}, [], [way], way[:4], way + [1], way[::-1],
                  [5, -1, 6, -1, 7], InvalidDay("none"), ("apart", [0, 2])]
        for at in range(5):
            for odd in (None, True, way[at] + 1, way[at] - 1, -1, 10, str(way[at]), [way[at]], {}, InvalidDay("none")):
                things.append(way[:at] + [odd] + way[at + 1:])
        for thing in things:
            with self.assertRaises(InvalidWay):
                way_index(*self.told, thing)

    def test_a_way_for_another_most_is_none(self):
        self.assertEqual(way_index([4, 5, 5, 6], 2, 4, [2, 2, 3, 2, 4]), 2)
        with self.assertRaises(InvalidWay):
            way_index([4, 5, 5, 6], 2, 4, [3, 1, 4, 1, 5])

    def test_booleans_are_no_index_and_no_way(self):
        self.assertEqual(nth_way(*self.told, 1), [1, 3, 2, 3, 3])
        with self.assertRaises(InvalidIndex):
            nth_way(*self.told, True)
        self.assertEqual(way_index([1, 1], 1, 1, [1, 1]), 0)
        with self.assertRaises(InvalidWay):
            way_index([1, 1], 1, 1, [1, True])

    def test_without_a_way(self):
        for told in WITHOUT_A_WAY:
            conflict = conflict_of(*told)
            for call, other in ((nth_way, 0), (nth_way, 1), (nth_way, 10 ** 300 - 1), (way_index, [0]),
                                (way_index, None), (way_index, [2, 2, 3, 12]), (way_index, [True])):
                with self.assertRaises(Impossible) as caught:
                    call(*told, other)
                self.assertEqual((caught.exception.word, caught.exception.days), conflict)
            for number in (-1, 0, 1, 4):
                self.assertEqual(count_with(*told, 0, number), 0)


class AllWays(unittest.TestCase):
    def test_count_ways(self):
        for sums, length, most in plainly.small_rows():
            self.assertEqual(count_ways(sums, length, most), len(plainly.all_ways(sums, length, most)))

    def test_nth_way_and_way_index(self):
        lengths = set()
        for sums, length, most, ways in plainly.rows_with_ways():
            for index, way in enumerate(ways):
                self.assertEqual(nth_way(sums, length, most, index), way)
                self.assertEqual(way_index(sums, length, most, way), index)
            for index in (-1, len(ways)):
                with self.assertRaises(InvalidIndex):
                    nth_way(sums, length, most, index)
            lengths.add(length)
        self.assertEqual(lengths, set(range(1, 9)))

    def test_way_index_of_what_is_no_way(self):
        for sums, length, most, ways in plainly.rows_with_ways():
            for way in (ways[0], ways[-1]):
                for day in range(len(way)):
                    for other in (way[:day] + [way[day] - 1] + way[day + 1:], way[:day] + way[day + 1:],
                                  way[:day] + [0] + way[day:]):
                        if other not in ways:
                            with self.assertRaises(InvalidWay):
                                way_index(sums, length, most, other)

    def test_count_with(self):
        for sums, length, most in plainly.small_rows():
            ways = plainly.all_ways(sums, length, most)
            for day in range(len(sums) + length - 1):
                for number in range(-1, most + 2):
                    told = len([way for way in ways if way[day] == number])
                    self.assertEqual(count_with(sums, length, most, day, number), told)

    def test_wider_numbers(self):
        for length, most in ((2, 9), (3, 6), (4, 4), (5, 3)):
            for seed in range(30):
                numbers = plainly.numbers_of_many_digits(length + seed % 4, most, seed)
                sums = plainly.sums_by_hand(numbers, length)
                ways = plainly.all_ways(sums, length, most)
                self.assertEqual(count_ways(sums, length, most), len(ways))
                self.assertEqual(plainly.count_step_by_step(numbers, length, most), len(ways))
                self.assertEqual(way_index(sums, length, most, numbers), ways.index(numbers))
                for index in drawn_indices(len(ways)):
                    self.assertEqual(nth_way(sums, length, most, index), ways[index])
                for at, way in enumerate(ways[:40]):
                    later = ways[at + 1] if at + 1 < len(ways) else None
                    self.assertEqual(plainly.next_way(way, length, most), later)

    def test_without_a_way(self):
        for sums, length, most in plainly.small_rows():
            told = plainly.told_conflict(sums, length, most)
            if told is not None:
                for call, other in ((nth_way, 0), (nth_way, 10 ** 299), (way_index, [0] * (len(sums) + length - 1)),
                                    (way_index, None)):
                    with self.assertRaises(Impossible) as caught:
                        call(sums, length, most, other)
                    self.assertEqual((caught.exception.word, caught.exception.days), told)
                with self.assertRaises(InvalidIndex):
                    nth_way(sums, length, most, -1)


class Days67(unittest.TestCase):
    def rows(self):
        for most in (1, 2, 10 ** 15, TOP):
            for length, numbers in plainly.lists_of_67_days(most):
                yield plainly.sums_by_hand(numbers, length), length, most, numbers

    def test_nth_way_and_way_index_lead_back_to_each_other(self):
        for sums, length, most, numbers in self.rows():
            many = count_ways(sums, length, most)
            before = []
            for index in drawn_indices(many):
                way = nth_way(sums, length, most, index)
                self.assertTrue(is_way(sums, length, most, way))
                self.assertLess(before, way)
                self.assertEqual(way_index(sums, length, most, way), index)
                before = way
            index = way_index(sums, length, most, numbers)
            self.assertTrue(0 <= index < many)
            self.assertEqual(nth_way(sums, length, most, index), numbers)

    def test_the_first_and_the_last(self):
        for sums, length, most, _ in self.rows():
            many = count_ways(sums, length, most)
            self.assertEqual(nth_way(sums, length, most, 0), least_way(sums, length, most))
            self.assertEqual(nth_way(sums, length, most, many - 1), greatest_way(sums, length, most))
            self.assertEqual(way_index(sums, length, most, least_way(sums, length, most)), 0)
            self.assertEqual(way_index(sums, length, most, greatest_way(sums, length, most)), many - 1)
            for index in (-1, many, many + 1, 10 ** 300 - 1):
                with self.assertRaises(InvalidIndex):
                    nth_way(sums, length, most, index)

    def test_the_next_index_is_the_next_way(self):
        for sums, length, most, numbers in self.rows():
            ways = [numbers] + [nth_way(sums, length, most, index)
                                for index in drawn_indices(count_ways(sums, length, most))]
            for way in ways:
                later = plainly.next_way(way, length, most)
                index = way_index(sums, length, most, way)
                if later is None:
                    self.assertEqual(index, count_ways(sums, length, most) - 1)
                else:
                    self.assertEqual(nth_way(sums, length, most, index + 1), later)

    def test_counts_that_can_be_gone_through_class_by_class(self):
        for most in (1, 2, 3, 30, 60):
            for length, numbers in plainly.lists_of_67_days(most):
                sums = plainly.sums_by_hand(numbers, length)
                many = plainly.count_step_by_step(numbers, length, most)
                self.assertEqual(count_ways(sums, length, most), many)

    def test_one_sum_of_huge_numbers(self):
        # Up to the most it is as if there were none; the ways can be turned upside down.
        for length in range(1, 9):
            for total in (0, 1, 2, TOP // 3, TOP - 1, TOP):
                many = comb(total + length - 1, length - 1)
                self.assertEqual(count_ways([total], length, TOP), many)
                self.assertEqual(count_ways([length * TOP - total], length, TOP), many)
            many = comb(TOP + length, length - 1) - length
            self.assertEqual(count_ways([TOP + 1], length, TOP), many)
            self.assertEqual(count_ways([-1], length, TOP), 0)
            self.assertEqual(count_ways([length * TOP + 1], length, TOP), 0)

    def test_upside_down(self):
        for sums, length, most, numbers in self.rows():
            turned = [length * most - told for told in sums]
            self.assertEqual(count_ways(turned, length, most), count_ways(sums, length, most))
            way = [most - number for number in numbers]
            index = count_ways(sums, length, most) - 1 - way_index(sums, length, most, numbers)
            self.assertEqual(way_index(turned, length, most, way), index)

    def test_two_classes(self):
        for most in (10 ** 15, TOP):
            for length, numbers in plainly.lists_of_67_days(most):
                if length == 2:
                    sums = plainly.sums_by_hand(numbers, length)
                    low, high = plainly.weighed_range(numbers, 2, most, plainly.weights_of([0], 67))
                    self.assertEqual(count_ways(sums, 2, most), high - low + 1)
                    for number in (low, high, (low + high) // 2):
                        self.assertEqual(count_with(sums, 2, most, 0, number), 1)
                    for number in (low - 1, high + 1):
                        self.assertEqual(count_with(sums, 2, most, 0, number), 0)

    def test_count_with_adds_up_over_a_small_range(self):
        for length in range(2, 9):
            for start in (0, length // 2, length - 1):
                numbers = plainly.narrow_list(length, start, 6, TOP)
                sums = plainly.sums_by_hand(numbers, length)
                many = count_ways(sums, length, TOP)
                for day in (start, start + length, start + 5 * length):
                    low, high = day_range(sums, length, TOP, day)
                    self.assertLessEqual(high - low, 6)
                    counts = [count_with(sums, length, TOP, day, number) for number in range(low - 2, high + 3)]
                    self.assertEqual(sum(counts), many)
                    self.assertEqual(counts[:2] + counts[-2:], [0] * 4)
                    self.assertNotIn(0, counts[2:-2])

    def test_count_with_leaves_the_other_classes(self):
        for sums, length, most, numbers in self.rows():
            for day in (0, 30, 66) if length > 1 else ():
                low, high = day_range(sums, length, most, day)
                for number in {low, high, numbers[day], (2 * low + high) // 3}:
                    other = (day + 1) % length
                    fixed = plainly.moved(numbers, length, day % length, other, numbers[day] - number)
                    rest = plainly.without_class(fixed, length, day % length)
                    told = count_ways(plainly.sums_by_hand(rest, length - 1), length - 1, most)
                    self.assertGreater(told, 0)
                    self.assertEqual(count_with(sums, length, most, day, number), told)
                for number in (low - 1, high + 1):
                    self.assertEqual(count_with(sums, length, most, day, number), 0)

    def test_length_one(self):
        numbers = plainly.numbers_of_many_digits(67, TOP, 1)
        self.assertEqual(count_ways(numbers, 1, TOP), 1)
        self.assertEqual(nth_way(numbers, 1, TOP, 0), numbers)
        self.assertEqual(way_index(numbers, 1, TOP, numbers), 0)
        for day in (0, 33, 66):
            found = [count_with(numbers, 1, TOP, day, numbers[day] + by) for by in (-1, 0, 1)]
            self.assertEqual(found, [0, 1, 0])

    def test_a_way_of_67_days_with_one_wrong_number(self):
        for sums, length, most, numbers in self.rows():
            for at in (0, 33, 66):
                for odd in (numbers[at] - 1, numbers[at] + 1, None, True, str(numbers[at]), [numbers[at]], -1, most + 1):
                    with self.assertRaises(InvalidWay):
                        way_index(sums, length, most, numbers[:at] + [odd] + numbers[at + 1:])
            for odd in (numbers[:66], numbers[1:], numbers + [0], [0] + numbers, tuple(numbers), [numbers]):
                with self.assertRaises(InvalidWay):
                    way_index(sums, length, most, odd)


if __name__ == "__main__":
    unittest.main()
