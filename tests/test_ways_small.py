"""Small sums against all ways, gone through one by one."""

import unittest
from itertools import product

import plainly
from plainly import small_rows
from weeksums.errors import Impossible
from weeksums.ways import conflict_of, greatest_way, is_way, least_way, shows_conflict

class AllWays(unittest.TestCase):
    def test_both_ways_to_go_through_them_agree(self):
        for length, many, most in ((1, 3, 2), (2, 2, 2), (3, 2, 1)):
            for sums in product(range(-1, length * most + 2), repeat=many):
                ways = plainly.all_ways_day_by_day(list(sums), length, most)
                self.assertEqual(plainly.all_ways(list(sums), length, most), ways)

    def test_there_is_a_conflict_just_where_there_is_no_way(self):
        for sums, length, most in small_rows():
            told = conflict_of(sums, length, most)
            self.assertEqual(told is None, plainly.all_ways(sums, length, most) != [], (sums, length, most))

    def test_the_conflict_is_the_one_that_the_document_tells(self):
        words = set()
        for sums, length, most in small_rows():
            told = conflict_of(sums, length, most)
            self.assertEqual(told, plainly.told_conflict(sums, length, most), (sums, length, most))
            if told is not None:
                self.assertIs(type(told), tuple)
                self.assertIs(type(told[1]), list)
                self.assertTrue(shows_conflict(sums, length, most, told))
                words.add(told[0])
        self.assertEqual(words, set(plainly.WORDS))

    def test_the_least_and_the_greatest_way_are_the_first_and_the_last(self):
        for sums, length, most in small_rows():
            ways = plainly.all_ways(sums, length, most)
            if ways:
                self.assertEqual(least_way(sums, length, most), ways[0], (sums, length, most))
                self.assertEqual(greatest_way(sums, length, most), ways[-1], (sums, length, most))

    def test_without_a_way_the_conflict_is_raised(self):
        for sums, length, most in small_rows():
            told = plainly.told_conflict(sums, length, most)
            if told is not None:
                for call in (least_way, greatest_way):
                    with self.assertRaises(Impossible) as caught:
                        call(sums, length, most)
                    self.assertEqual((caught.exception.word, caught.exception.days), told)

    def test_wider_numbers(self):
        for length, most in ((2, 9), (3, 5), (4, 3)):
            for seed in range(60):
                numbers = plainly.numbers_of_many_digits(length + 4, most, seed)
                sums = plainly.sums_by_hand(numbers, length)
                ways = plainly.all_ways(sums, length, most)
                self.assertIn(numbers, ways)
                self.assertIsNone(conflict_of(sums, length, most))
                self.assertEqual(least_way(sums, length, most), ways[0])
                self.assertEqual(greatest_way(sums, length, most), ways[-1])

    def test_wide_sums_that_may_have_no_way(self):
        for length, many, most in ((2, 6, 5), (3, 5, 6), (4, 7, 4), (5, 5, 20)):
            for seed in range(200):
                sums = plainly.numbers_of_many_digits(many, length * most, seed)
                self.assertEqual(conflict_of(sums, length, most), plainly.told_conflict(sums, length, most))


class Things(unittest.TestCase):
    def test_is_way_for_every_list(self):
        for sums, length, most in (([2, 1], 2, 2), ([1, 1, 2], 1, 2), ([2, 2], 3, 1), ([5], 2, 2), ([0, 1], 2, 0)):
            days = len(sums) + length - 1
            for many in (days - 1, days, days + 1):
                for thing in product(range(-1, most + 2), repeat=many):
                    told = (all(0 <= number <= most for number in thing)
                            and plainly.sums_by_hand(thing, length) == sums and many == days)
                    self.assertIs(is_way(sums, length, most, list(thing)), told, (sums, length, most, thing))
                    self.assertIs(is_way(sums, length, most, thing), False)

    def test_shows_conflict_for_every_list(self):
        rows = (
            ([0, 3, 1], 2, 1), ([-1, -1], 2, 1), ([3, 3], 2, 1), ([1, 1], 2, 1), ([-1, 5, -1], 2, 2),
            ([-1], 1, 0), ([1, 0, -1], 1, 0), ([4, -4, 4], 1, 2), ([0, 5], 3, 1), ([-2, 0, -2], 3, 2), ([7, 6], 3, 2),
        )
        for sums, length, most in rows:
            days = range(-1, len(sums) + length + 1)
            for word in plainly.WORDS:
                for many in range(5):
                    for chosen in product(days, repeat=many):
                        told = plainly.rules_out(sums, length, most, word, list(chosen))
                        found = shows_conflict(sums, length, most, (word, list(chosen)))
                        self.assertIs(found, told, (sums, length, most, word, chosen))


if __name__ == "__main__":
    unittest.main()
