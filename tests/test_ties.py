import unittest
from itertools import permutations, product

import plainly
from weeksums.ties import days_of, forced_total, sums_of, tie_between, tied_days

HUGE = plainly.TOP


def long_rows():
    """Sums of 67 days, each length once, with numbers of 30 digits of both signs."""
    for length in range(1, 9):
        numbers = [number - HUGE // 2 for number in plainly.numbers_of_many_digits(67, HUGE, length)]
        yield length, numbers, plainly.sums_by_hand(numbers, length)


class Sums(unittest.TestCase):
    def test_told_examples(self):
        self.assertEqual(sums_of([3, 1, 4, 1, 5], 2), [4, 5, 5, 6])
        self.assertEqual(sums_of([3, 1, 4, 1, 5], 1), [3, 1, 4, 1, 5])
        self.assertEqual(sums_of([3, 1, 4, 1, 5], 5), [14])
        self.assertEqual(sums_of([7], 1), [7])

    def test_negative_numbers(self):
        self.assertEqual(sums_of([-3, 1, -4, 0], 2), [-2, -3, -4])
        self.assertEqual(sums_of([-HUGE, -HUGE], 2), [-2 * HUGE])

    def test_all_small_rows(self):
        for many in range(1, 5):
            for numbers in product((-1, 0, 2), repeat=many):
                for length in range(1, many + 1):
                    self.assertEqual(sums_of(list(numbers), length), plainly.sums_by_hand(numbers, length))

    def test_67_numbers(self):
        for length, numbers, sums in long_rows():
            self.assertEqual(sums_of(numbers, length), sums)
            self.assertEqual(len(sums), 68 - length)

    def test_eight_numbers_of_length_eight(self):
        self.assertEqual(sums_of([1, 2, 3, 4, 5, 6, 7, 8], 8), [36])


class Days(unittest.TestCase):
    def test_days_of(self):
        self.assertEqual(days_of([4, 5, 5, 6], 2), 5)
        self.assertEqual(days_of([9], 1), 1)
        self.assertEqual(days_of([9], 8), 8)
        self.assertEqual(days_of([-9, 4], 7), 8)
        for length in range(1, 9):
            self.assertEqual(days_of([0] * (68 - length), length), 67)

    def test_tied_days(self):
        sums = [4, 5, 5, 6]
        for day in range(5):
            self.assertEqual(tied_days(sums, 2, day), [1, 3] if day in (1, 3) else [0, 2, 4])
        self.assertEqual(tied_days(sums, 1, 2), [0, 1, 2, 3])
        self.assertEqual([tied_days([1], 3, day) for day in range(3)], [[0], [1], [2]])

    def test_tied_days_by_definition(self):
        for length in range(1, 9):
            for many in (1, 2, 7, 30, 68 - length):
                days = range(many + length - 1)
                for day in days:
                    tied = [other for other in days if (other - day) % length == 0]
                    self.assertEqual(tied_days([0] * many, length, day), tied)

    def test_no_two_lists_are_the_same_object(self):
        sums = [4, 5, 5, 6]
        told = tied_days(sums, 2, 0)
        told.append(99)
        self.assertEqual(tied_days(sums, 2, 0), [0, 2, 4])
        self.assertEqual(tied_days(sums, 2, 2), [0, 2, 4])


class Ties(unittest.TestCase):
    def test_told_examples(self):
        sums = [4, 5, 5, 6]
        self.assertEqual(tie_between(sums, 2, 0, 4), 2)
        self.assertEqual(tie_between(sums, 2, 4, 0), -2)
        self.assertEqual(tie_between(sums, 2, 1, 3), 0)
        self.assertIsNone(tie_between(sums, 2, 0, 1))
        self.assertIsNone(tie_between(sums, 2, 4, 3))
        self.assertEqual(tie_between(sums, 1, 3, 0), -2)

    def test_a_day_with_itself(self):
        for day in range(5):
            self.assertEqual(tie_between([4, 5, 5, 6], 2, day, day), 0)

    def test_one_sum_alone(self):
        for first, second in product(range(8), repeat=2):
            told = 0 if first == second else None
            self.assertEqual(tie_between([-5], 8, first, second), told)

    def test_it_is_the_difference_in_the_days_that_were_summed(self):
        for length, numbers, sums in long_rows():
            for first, second in product(range(67), repeat=2):
                told = tie_between(sums, length, first, second)
                if (first - second) % length:
                    self.assertIsNone(told)
                else:
                    self.assertEqual(told, numbers[second] - numbers[first])

    def test_all_lists_that_have_the_sums_have_it(self):
        sums = [4, -1, 7, 7, 2]
        for start in product((-6, 0, 5), repeat=2):
            numbers = plainly.list_from(sums, 3, start)
            self.assertEqual(sums_of(numbers, 3), sums)
            for first, second in product(range(7), repeat=2):
                if (first - second) % 3 == 0:
                    self.assertEqual(tie_between(sums, 3, first, second), numbers[second] - numbers[first])


class Totals(unittest.TestCase):
    def test_told_examples(self):
        sums = [4, 5, 5, 6]
        self.assertEqual(forced_total(sums, 2, [0, 1]), 4)
        self.assertEqual(forced_total(sums, 2, [3, 4]), 6)
        self.assertEqual(forced_total(sums, 2, [4, 1]), 6)
        self.assertEqual(forced_total(sums, 2, [0, 3]), 4)
        self.assertEqual(forced_total([3, 1, 4], 1, [1]), 1)
        self.assertEqual(forced_total([-7], 4, [2, 0, 3, 1]), -7)

    def test_all_lists_that_have_the_sums_have_it(self):
        sums = [4, -1, 7, 7, 2]
        for start in product((-6, 0, 5), repeat=2):
            numbers = plainly.list_from(sums, 3, start)
            for chosen in plainly.one_of_each(7, 3):
                for days in permutations(chosen):
                    self.assertEqual(forced_total(sums, 3, list(days)), sum(numbers[day] for day in days))

    def test_rows_of_one_sum_are_that_sum(self):
        for length, _, sums in long_rows():
            for at, told in enumerate(sums):
                self.assertEqual(forced_total(sums, length, list(range(at, at + length))), told)

    def test_67_days(self):
        for length, numbers, sums in long_rows():
            for shift in range(9):
                days = [day + length * ((day * 5 + shift) % (67 // length - 1)) for day in range(length)]
                self.assertEqual(forced_total(sums, length, days), sum(numbers[day] for day in days))
                self.assertEqual(forced_total(sums, length, days[::-1]), sum(numbers[day] for day in days))


if __name__ == "__main__":
    unittest.main()
