import unittest
from itertools import permutations

import plainly
from weeksums.errors import Impossible, InvalidDay
from weeksums.ways import conflict_of, greatest_way, is_way, least_way, shows_conflict

TOP = plainly.TOP
MOSTS = (1, 2, 10 ** 15, TOP - 1, TOP)


def shifted(numbers, length, start, by):
    """The numbers with so much more on each day of one class."""
    return [number + (by if day % length == start else 0) for day, number in enumerate(numbers)]


def rows_of_67_days(most):
    """Each length, with numbers of 67 days that are at most half of the most."""
    for length in range(1, 9):
        yield length, plainly.numbers_of_many_digits(67, most // 2, length + most % 1000)


def extremes(numbers, length, extreme):
    return [extreme(numbers[start::length]) for start in range(length)]


class Ordinary(unittest.TestCase):
    def test_a_way(self):
        sums = [4, 5, 5, 6]
        self.assertIsNone(conflict_of(sums, 2, 9))
        self.assertEqual(least_way(sums, 2, 9), [0, 4, 1, 4, 2])
        self.assertEqual(greatest_way(sums, 2, 9), [4, 0, 5, 0, 6])
        self.assertTrue(is_way(sums, 2, 9, [3, 1, 4, 1, 5]))

    def test_the_most_bounds_the_ways(self):
        sums = [4, 5, 5, 6]
        self.assertEqual(least_way(sums, 2, 4), [0, 4, 1, 4, 2])
        self.assertEqual(greatest_way(sums, 2, 4), [2, 2, 3, 2, 4])
        self.assertEqual(least_way(sums, 2, 3), [1, 3, 2, 3, 3])
        self.assertEqual(greatest_way(sums, 2, 3), [1, 3, 2, 3, 3])
        self.assertEqual(conflict_of(sums, 2, 2), ("high", [1, 4]))

    def test_three_classes(self):
        sums = [6, 7, 5]
        self.assertEqual(least_way(sums, 3, 5), [0, 2, 4, 1, 0])
        self.assertEqual(greatest_way(sums, 3, 5), [4, 2, 0, 5, 0])

    def test_length_one(self):
        self.assertEqual(least_way([0, 3, 2], 1, 3), [0, 3, 2])
        self.assertEqual(greatest_way([0, 3, 2], 1, 3), [0, 3, 2])
        self.assertEqual(conflict_of([0, 3, 2], 1, 2), ("apart", [0, 1]))
        self.assertEqual(conflict_of([1, 3, 2, 3], 1, 2), ("high", [1]))
        self.assertEqual(conflict_of([0, -1, 1, -1], 1, 2), ("low", [1]))

    def test_one_sum_alone(self):
        for length in range(1, 9):
            self.assertEqual(least_way([0], length, 5), [0] * length)
            self.assertEqual(greatest_way([5 * length], length, 5), [5] * length)
            self.assertEqual(least_way([4], length, 5), [0] * (length - 1) + [4])
            self.assertEqual(greatest_way([4], length, 5), [4] + [0] * (length - 1))
            self.assertEqual(conflict_of([-1], length, 5), ("low", list(range(length))))
            self.assertEqual(conflict_of([5 * length + 1], length, 5), ("high", list(range(length))))
        self.assertEqual(least_way([13], 4, 5), [0, 3, 5, 5])
        self.assertEqual(greatest_way([13], 4, 5), [5, 5, 3, 0])

    def test_a_length_greater_than_the_number_of_sums(self):
        sums = plainly.sums_by_hand([2, 0, 1, 3, 0, 0, 1, 1, 3], 8)
        self.assertEqual(sums, [8, 9])
        self.assertEqual(least_way(sums, 8, 3), [0, 0, 0, 0, 0, 2, 3, 3, 1])
        self.assertEqual(greatest_way(sums, 8, 3), [2, 3, 3, 0, 0, 0, 0, 0, 3])

    def test_a_most_of_0(self):
        self.assertEqual(least_way([0, 0, 0], 2, 0), [0, 0, 0, 0])
        self.assertEqual(greatest_way([0, 0, 0], 2, 0), [0, 0, 0, 0])
        self.assertTrue(is_way([0, 0, 0], 2, 0, [0, 0, 0, 0]))
        self.assertEqual(conflict_of([0, 0, 1], 2, 0), ("apart", [1, 3]))
        self.assertEqual(conflict_of([1, 1, 1], 2, 0), ("high", [0, 1]))
        self.assertEqual(conflict_of([-1, -1], 3, 0), ("low", [0, 1, 2]))

    def test_negative_sums(self):
        self.assertEqual(conflict_of([-1, -1, -1], 2, 9), ("low", [0, 1]))
        self.assertEqual(conflict_of([3, -9, 3], 2, 9), ("apart", [0, 2]))
        self.assertFalse(is_way([-1], 2, 9, [0, -1]))


class Conflicts(unittest.TestCase):
    def test_apart_is_told_ahead_of_low_and_high(self):
        self.assertEqual(conflict_of([-5, 3], 2, 1), ("apart", [0, 2]))
        self.assertTrue(shows_conflict([-5, 3], 2, 1, ("low", [0, 1])))
        self.assertEqual(conflict_of([9, 3], 2, 1), ("apart", [0, 2]))
        self.assertTrue(shows_conflict([9, 3], 2, 1, ("high", [0, 1])))

    def test_apart_is_told_ahead_of_both(self):
        # Only with days that are too far apart there can be both.
        sums = plainly.sums_by_hand([-3, 0, 5, 1], 2)
        self.assertEqual(conflict_of(sums, 2, 2), ("apart", [0, 2]))
        self.assertTrue(shows_conflict(sums, 2, 2, ("low", [0, 1])))
        self.assertTrue(shows_conflict(sums, 2, 2, ("high", [2, 3])))

    def test_the_least_pair_is_told(self):
        sums = plainly.sums_by_hand([5, 0, 5, 9, 0, 0, 9, 9], 2)
        self.assertEqual(conflict_of(sums, 2, 4), ("apart", [0, 4]))
        self.assertEqual(conflict_of(sums, 2, 5), ("apart", [1, 3]))
        self.assertEqual(conflict_of(sums, 2, 8), ("apart", [1, 3]))
        self.assertIsNone(conflict_of(sums, 2, 9))

    def test_the_pair_need_not_be_neighbours(self):
        sums = plainly.sums_by_hand([0, 2, 4, 6, 8], 1)
        self.assertEqual(conflict_of(sums, 1, 7), ("apart", [0, 4]))
        self.assertEqual(conflict_of(sums, 1, 5), ("apart", [0, 3]))

    def test_of_each_class_the_first_day_with_its_extreme_number(self):
        sums = plainly.sums_by_hand([1, 3, 0, 2, 0, 2], 2)
        low = [told - 3 for told in sums]
        # Taking 3 off each sum takes it off one class, whichever.
        self.assertEqual(conflict_of(low, 2, 3), ("low", [2, 3]))
        high = [told + 3 for told in sums]
        self.assertEqual(conflict_of(high, 2, 3), ("high", [0, 1]))

    def test_the_days_ascend_though_the_classes_do_not(self):
        numbers = [4, 0, 0, 0, 0, 3]
        self.assertEqual(conflict_of(plainly.sums_by_hand([n - 3 for n in numbers], 3), 3, 4), ("low", [1, 2, 3]))
        sums = [told + 1 for told in plainly.sums_by_hand(numbers, 3)]
        self.assertEqual(conflict_of(sums, 3, 2), ("apart", [0, 3]))
        numbers = [0, 4, 0, 4, 0, 3]
        sums = [told + 5 for told in plainly.sums_by_hand(numbers, 3)]
        self.assertEqual(conflict_of(sums, 3, 5), ("high", [1, 3, 5]))

    def test_shows_those_that_are_not_told_and_in_any_sequence(self):
        numbers = [0, 4, 0, 4, 0, 3, 4]
        sums = [told + 9 for told in plainly.sums_by_hand(numbers, 3)]
        self.assertEqual(conflict_of(sums, 3, 6), ("high", [1, 3, 5]))
        for chosen in ([1, 3, 5], [1, 5, 6]):
            for days in permutations(chosen):
                self.assertIs(shows_conflict(sums, 3, 6, ("high", list(days))), True)
                self.assertIs(shows_conflict(sums, 3, 6, ("low", list(days))), False)
        self.assertIs(shows_conflict(sums, 3, 6, ("high", [0, 4, 2])), False)

    def test_apart_in_both_sequences(self):
        for days in ([1, 3], [3, 1]):
            self.assertIs(shows_conflict([4, 5, 15], 2, 9, ("apart", days)), True)
            self.assertIs(shows_conflict([4, 5, 15], 2, 10, ("apart", days)), False)

    def test_apart_needs_tied_days(self):
        self.assertIs(shows_conflict([0, 50, 0], 2, 9, ("apart", [0, 2])), True)
        self.assertIs(shows_conflict([0, 50, 0], 2, 9, ("apart", [0, 1])), False)
        self.assertIs(shows_conflict([0, 50, 0], 2, 9, ("apart", [2, 2])), False)


class OtherThings(unittest.TestCase):
    def things(self, days):
        """What is like ("apart", days), but is no such thing."""
        first, second = days
        yield from (None, True, 0, 10 ** 30, "", "apart", "apart 0 2", (), [], {}, InvalidDay("none"))
        yield from (("apart",), ("apart", days, days), ("apart", days, None), ["apart", days], (days, "apart"))
        yield from (("apart", None), ("apart", first), ("apart", "02"), ("apart", tuple(days)), ("apart", [days]))
        yield from (("apart", {"0": first, "2": second}), ("apart", []), ("apart", [first]), ("apart", days + [4]))
        yield from (("Apart", days), ("apart ", days), ("", days), (None, days), (0, days), (["apart"], days))
        yield from (("ring", days), ("parts", days), ("walk", days), (("apart",), days), ({}, days), (True, days))
        for odd in (None, True, False, "0", -1, -2, 5, 67, 10 ** 30, [first], (first,), {}, InvalidDay("none")):
            yield from (("apart", [odd, second]), ("apart", [first, odd]))
        yield (Impossible("apart", days), days)
        yield Impossible("apart", days)

    def test_shows_conflict(self):
        sums = [0, 50, 0, 0]
        self.assertIs(shows_conflict(sums, 2, 9, ("apart", [0, 2])), True)
        for thing in self.things([0, 2]):
            self.assertIs(shows_conflict(sums, 2, 9, thing), False, thing)

    def test_a_boolean_is_no_day(self):
        self.assertIs(shows_conflict([-1, -1], 2, 9, ("low", [0, 1])), True)
        self.assertIs(shows_conflict([-1, -1], 2, 9, ("low", [False, 1])), False)
        self.assertIs(shows_conflict([-1, -1], 2, 9, ("low", [0, True])), False)
        self.assertIs(shows_conflict([0, 99, 0], 1, 9, ("apart", [0, 1])), True)
        self.assertIs(shows_conflict([0, 99, 0], 1, 9, ("apart", [0, True])), False)

    def test_low_and_high(self):
        for word, sums in (("low", [-1, -1, -1]), ("high", [99, 99, 99])):
            self.assertIs(shows_conflict(sums, 2, 9, (word, [2, 1])), True)
            for days in ([], [0], [0, 2], [0, 0], [0, 1, 2], [-1, 0], [-2, 1], [0, 5], [3, 4], (0, 1), None, "01",
                         [0, None], [[0], 1], [0, "1"], {"0": 0}, 0, [0, 1, 2, 3]):
                self.assertIs(shows_conflict(sums, 2, 9, (word, days)), False, (word, days))

    def test_any_other_word(self):
        for told in ("low", "high", "apart"):
            sums = {"low": [-1, -1], "high": [99, 99], "apart": [0, 99]}[told]
            days = [0, 2] if told == "apart" else [0, 1]
            for word in plainly.WORDS + ("", "Low", "HIGH", "high ", "ring", "parts", None, 0, True, [told], ()):
                self.assertIs(shows_conflict(sums, 2, 9, (word, days)), word == told, (word, days))

    def test_is_way(self):
        sums = [4, 5, 5, 6]
        way = [3, 1, 4, 1, 5]
        self.assertIs(is_way(sums, 2, 9, way), True)
        things = [None, True, 3, "31415", "", tuple(way), {}, {"0": 3}, [], [way], way[:4], way + [1], way[::-1],
                  ["3", 1, 4, 1, 5], [4, 1, 4, 1, 5], [3, 1, 4, 1, 4], InvalidDay("none"), ("apart", [0, 2])]
        for at in range(5):
            for odd in (None, True, str(way[at]), [way[at]], (way[at],), {}, InvalidDay("none")):
                things.append(way[:at] + [odd] + way[at + 1:])
        for thing in things:
            self.assertIs(is_way(sums, 2, 9, thing), False, thing)

    def test_numbers_of_a_way_are_from_0_to_the_most(self):
        self.assertIs(is_way([4, 5, 5, 6], 2, 5, [3, 1, 4, 1, 5]), True)
        self.assertIs(is_way([4, 5, 5, 6], 2, 4, [3, 1, 4, 1, 5]), False)
        self.assertIs(is_way([4, 5, 5, 6], 2, 9, [5, -1, 6, -1, 7]), False)
        self.assertIs(is_way([4, 5, 5, 6], 2, 9, [4, 0, 5, 0, 6]), True)

    def test_a_boolean_is_no_number_of_a_way(self):
        self.assertIs(is_way([1, 1], 1, 1, [1, 1]), True)
        self.assertIs(is_way([1, 1], 1, 1, [True, 1]), False)
        self.assertIs(is_way([0, 0], 1, 1, [0, False]), False)

    def test_large_things(self):
        deep = [1]
        for _ in range(19):
            deep = [deep]
        for thing in (list(range(4000)), [[0]] * 2000, deep, ("apart", list(range(3990))), ("low", deep), (deep, deep)):
            self.assertIs(is_way([4, 5, 5, 6], 2, 9, thing), False)
            self.assertIs(shows_conflict([0, 50, 0, 0], 2, 9, thing), False)


class Days67(unittest.TestCase):
    def check_ends(self, sums, length, most):
        """No earlier day of the least way, or of the greatest, can be changed for a later one."""
        least = least_way(sums, length, most)
        greatest = greatest_way(sums, length, most)
        self.assertTrue(is_way(sums, length, most, least))
        self.assertTrue(is_way(sums, length, most, greatest))
        self.assertLessEqual(least, greatest)
        for first in range(length):
            for second in range(first + 1, length):
                for way, by in ((least, -1), (greatest, 1)):
                    other = shifted(shifted(way, length, first, by), length, second, -by)
                    self.assertEqual(plainly.sums_by_hand(other, length), sums)
                    self.assertFalse(is_way(sums, length, most, other))

    def test_ways(self):
        for most in MOSTS:
            for length in range(1, 9):
                numbers = plainly.numbers_of_many_digits(67, most, length)
                sums = plainly.sums_by_hand(numbers, length)
                self.assertIsNone(conflict_of(sums, length, most))
                self.assertTrue(is_way(sums, length, most, numbers))
                self.check_ends(sums, length, most)
                self.assertLessEqual(least_way(sums, length, most), numbers)
                self.assertLessEqual(numbers, greatest_way(sums, length, most))

    def test_ways_with_room(self):
        for length, numbers in rows_of_67_days(TOP):
            self.check_ends(plainly.sums_by_hand(numbers, length), length, TOP)

    def test_few_days_with_much_room(self):
        for length in range(2, 9):
            for many in (1, 2, 5):
                numbers = plainly.numbers_of_many_digits(many + length - 1, TOP // 3, many)
                self.check_ends(plainly.sums_by_hand(numbers, length), length, TOP // 2)

    def test_a_most_of_0(self):
        for length in range(1, 9):
            sums = [0] * (68 - length)
            self.assertIsNone(conflict_of(sums, length, 0))
            self.assertEqual(least_way(sums, length, 0), [0] * 67)
            self.assertEqual(greatest_way(sums, length, 0), [0] * 67)
            sums[-1] = 1
            told = conflict_of(sums, length, 0)
            self.assertEqual(told, plainly.told_conflict(sums, length, 0))
            self.assertEqual(told, ("apart", [66 % length, 66]))

    def test_all_days_at_the_greatest_most(self):
        for length in range(1, 9):
            sums = [TOP * length] * (68 - length)
            self.assertEqual(least_way(sums, length, TOP), [TOP] * 67)
            self.assertEqual(greatest_way(sums, length, TOP), [TOP] * 67)
            self.assertEqual(conflict_of(sums, length, TOP - 1), ("high", list(range(length))))

    def test_low_and_the_last_that_is_not(self):
        for most in MOSTS[2:]:
            for length, numbers in rows_of_67_days(most):
                least = extremes(numbers, length, min)
                numbers = shifted(numbers, length, length - 1, -sum(least))
                sums = plainly.sums_by_hand(numbers, length)
                self.assertIsNone(conflict_of(sums, length, most))
                only = [number - min(numbers[day % length::length]) for day, number in enumerate(numbers)]
                self.assertEqual(least_way(sums, length, most), only)
                self.assertEqual(greatest_way(sums, length, most), only)
                sums = [told - 1 for told in sums]
                days = plainly.first_extreme(numbers, length, min)
                self.check_conflict(sums, length, most, ("low", days))

    def test_high_and_the_last_that_is_not(self):
        for most in MOSTS[2:]:
            for length, numbers in rows_of_67_days(most):
                greatest = extremes(numbers, length, max)
                numbers = shifted(numbers, length, 0, length * most - sum(greatest))
                sums = plainly.sums_by_hand(numbers, length)
                self.assertIsNone(conflict_of(sums, length, most))
                only = [most + number - max(numbers[day % length::length]) for day, number in enumerate(numbers)]
                self.assertEqual(least_way(sums, length, most), only)
                self.assertEqual(greatest_way(sums, length, most), only)
                sums = [told + 1 for told in sums]
                days = plainly.first_extreme(numbers, length, max)
                self.check_conflict(sums, length, most, ("high", days))

    def test_apart_and_the_last_that_is_not(self):
        for length in range(1, 9):
            numbers = plainly.numbers_of_many_digits(67, TOP // 2, length)
            sums = plainly.sums_by_hand(numbers, length)
            wide = max(max(numbers[start::length]) - min(numbers[start::length]) for start in range(length))
            told = conflict_of(sums, length, wide)
            self.assertTrue(told is None or told[0] != "apart")
            pairs = [[first, second] for first in range(67) for second in range(first, 67, length)
                     if abs(numbers[first] - numbers[second]) == wide]
            self.check_conflict(sums, length, wide - 1, ("apart", min(pairs)))

    def check_conflict(self, sums, length, most, told):
        self.assertEqual(conflict_of(sums, length, most), told)
        self.assertEqual(plainly.told_conflict(sums, length, most), told)
        self.assertIs(shows_conflict(sums, length, most, told), True)
        self.assertIs(shows_conflict(sums, length, most, (told[0], told[1][::-1])), True)
        self.assertIs(is_way(sums, length, most, [0] * 67), False)
        for call in (least_way, greatest_way):
            with self.assertRaises(Impossible) as caught:
                call(sums, length, most)
            self.assertEqual((caught.exception.word, caught.exception.days), told)

    def test_the_first_of_equal_days_is_told_and_the_others_show_it(self):
        for length in range(1, 9):
            numbers = [(day // length) % 3 for day in range(67)]
            low = [told - 1 for told in plainly.sums_by_hand(numbers, length)]
            self.check_conflict(low, length, 2, ("low", list(range(length))))
            later = list(range(3 * length, 4 * length))
            self.assertIs(shows_conflict(low, length, 2, ("low", later)), True)
            self.assertIs(shows_conflict(low, length, 2, ("low", [day + length for day in later])), False)
            high = [told + 1 for told in plainly.sums_by_hand(numbers, length)]
            self.check_conflict(high, length, 2, ("high", list(range(2 * length, 3 * length))))
            later = list(range(5 * length, 6 * length))
            self.assertIs(shows_conflict(high, length, 2, ("high", later[::-1])), True)
            self.assertIs(shows_conflict(high, length, 2, ("high", [day + length for day in later])), False)

    def test_sums_of_30_digits_and_either_sign(self):
        for length in range(1, 9):
            for most in (0, 5, TOP):
                digits = plainly.numbers_of_many_digits(68 - length, 2 * TOP, length)
                sums = [number - TOP for number in digits]
                told = conflict_of(sums, length, most)
                self.assertEqual(told, plainly.told_conflict(sums, length, most))
                if told is not None:
                    self.check_conflict(sums, length, most, told)


if __name__ == "__main__":
    unittest.main()
