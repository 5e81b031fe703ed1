import unittest
from itertools import product

import plainly
from checking import Arguments
from weeksums import errors
from weeksums.slips import corrections, fit_range, least_correction
from weeksums.ways import conflict_of

TOP = plainly.TOP
# length, how many sums, most
SIZES = [(1, 1, 2), (1, 2, 2), (1, 3, 2), (1, 4, 1), (2, 1, 3), (2, 2, 2), (2, 3, 2), (2, 4, 1), (2, 5, 1), (2, 4, 2),
         (3, 1, 2), (3, 2, 2), (3, 3, 2), (3, 4, 1), (3, 5, 1), (4, 1, 2), (4, 2, 1), (4, 3, 1), (4, 4, 1), (5, 2, 2),
         (5, 3, 1), (6, 3, 1), (7, 3, 1), (8, 2, 1), (8, 3, 1)]


def with_value(sums, index, value):
    return sums[:index] + [value] + sums[index + 1:]


def sums_with_ways(length, many, most):
    """All sums of the lists of days from 0 to most, by going through these."""
    lists = product(range(most + 1), repeat=many + length - 1)
    return {tuple(plainly.sums_by_hand(numbers, length)) for numbers in lists}


def fits_by_trying(sums, length, most, possible):
    """Of each sum the values with which there is a way."""
    values = range(-1, length * most + 2)
    return [[value for value in values if tuple(with_value(sums, index, value)) in possible] for index in range(len(sums))]


def least_by_trying(sums, fits):
    changes = [(abs(value - sums[index]), index, value) for index, values in enumerate(fits) for value in values]
    return min(changes)[1:] if changes else None


def has_way(sums, length, most):
    return plainly.told_conflict(sums, length, most) is None


class Ordinary(unittest.TestCase):
    def test_fit_range(self):
        # Day 1 has from 0 to 5, as the other sums tell, and day 0 any number.
        self.assertEqual(fit_range([4, 5, 5], 2, 9, 0), (0, 14))
        self.assertEqual(fit_range([4, 5, 5], 2, 9, 1), (0, 9))
        self.assertEqual(fit_range([4, 5, 5], 2, 3, 0), (2, 6))
        self.assertEqual(fit_range([4, 5, 15], 2, 9, 2), (1, 14))
        self.assertIsNone(fit_range([4, -1, 15], 2, 9, 0))

    def test_one_sum_alone(self):
        for length in range(1, 9):
            for most in (0, 1, 7, TOP):
                for told in (-TOP, -1, 0, length * most, length * most + 1, TOP):
                    self.assertEqual(fit_range([told], length, most, 0), (0, length * most))
                    self.assertEqual(corrections([told], length, most), [(0, 0, length * most)])
                    near = min(max(told, 0), length * most)
                    self.assertEqual(least_correction([told], length, most), (0, near))

    def test_length_1(self):
        # Each sum is a day.
        self.assertEqual(corrections([3, 1, 4], 1, 5), [(0, 0, 5), (1, 0, 5), (2, 0, 5)])
        self.assertEqual(corrections([3, 9, 4], 1, 5), [(1, 0, 5)])
        self.assertEqual(corrections([3, 9, -4], 1, 5), [])
        self.assertEqual(least_correction([3, 9, 4], 1, 5), (1, 5))
        self.assertEqual(least_correction([3, 1, -4], 1, 5), (2, 0))
        self.assertIsNone(least_correction([3, 9, -4], 1, 5))

    def test_sums_without_a_slip(self):
        for sums, length, most in (([4, 5, 5, 6], 2, 9), ([0], 8, 0), ([0] * 60, 8, 0), ([3, 1, 4], 1, 4)):
            self.assertEqual(least_correction(sums, length, most), (0, sums[0]))
            found = corrections(sums, length, most)
            self.assertEqual([index for index, _, _ in found], list(range(len(sums))))
            for index, least, greatest in found:
                self.assertTrue(least <= sums[index] <= greatest)

    def test_of_several_the_least_index(self):
        # Day 2 has 10 more than day 0: the second sum too great, or the first one too small.
        self.assertEqual(corrections([0, 10], 2, 9), [(0, 1, 18), (1, 0, 9)])
        self.assertEqual(least_correction([0, 10], 2, 9), (0, 1))
        self.assertEqual(corrections([10, 0], 2, 9), [(0, 0, 9), (1, 1, 18)])
        self.assertEqual(least_correction([10, 0], 2, 9), (0, 9))
        # The days 1 and 2 have none, so that day 3 would have 10; but it has 5 at most.
        self.assertEqual(corrections([5, 0, 10, 5], 2, 9), [(1, 5, 14), (2, 0, 5)])
        self.assertEqual(least_correction([5, 0, 10, 5], 2, 9), (1, 5))

    def test_none_at_all(self):
        for sums, length, most in (([-1, -1], 1, 9), ([1, 1], 1, 0), ([0, 9, 0, 0, 9, 0], 2, 3), ([99, 99, 99], 2, 9)):
            self.assertEqual(corrections(sums, length, most), [])
            self.assertIsNone(least_correction(sums, length, most))
            for index in range(len(sums)):
                self.assertIsNone(fit_range(sums, length, most, index))

    def test_kinds(self):
        told = ([4, 5, 15], 2, 9)
        self.assertIs(type(fit_range(*told, 1)), tuple)
        self.assertEqual({type(row) for row in corrections(*told)}, {tuple})
        self.assertEqual([type(number) for number in least_correction(*told)], [int, int])


class SmallSums(unittest.TestCase):
    def test_every_value_of_one_sum(self):
        lengths = set()
        for length, many, most in SIZES:
            possible = sums_with_ways(length, many, most)
            for sums in product(range(-1, length * most + 2), repeat=many):
                sums = list(sums)
                fits = fits_by_trying(sums, length, most, possible)
                told = [fit_range(sums, length, most, index) for index in range(many)]
                self.assertEqual(told, [plainly.ends(values) if values else None for values in fits], (sums, length, most))
                for values in fits:
                    self.assertEqual(len(values), values[-1] - values[0] + 1 if values else 0)
                rows = [(index, *plainly.ends(values)) for index, values in enumerate(fits) if values]
                self.assertEqual(corrections(sums, length, most), rows)
                self.assertEqual(least_correction(sums, length, most), least_by_trying(sums, fits), (sums, length, most))
                lengths.add((length, len(rows)))
        self.assertTrue({(length, rows) for length in range(1, 9) for rows in (0, 2)} <= lengths)

    def test_drawn_sums_with_slips(self):
        for length, most, days in ((1, 9, 5), (2, 6, 4), (2, 3, 6), (3, 4, 5), (4, 3, 5), (5, 3, 6), (6, 2, 7), (8, 1, 11)):
            many = days - length + 1
            possible = sums_with_ways(length, many, most)
            for seed in range(60):
                sums = plainly.sums_by_hand(plainly.numbers_of_many_digits(days, most, seed), length)
                for at in range(seed % 4):
                    sums[(seed + 2 * at) % many] += (seed % 7) * (-1) ** at * length
                fits = fits_by_trying(sums, length, most, possible)
                rows = [(index, *plainly.ends(values)) for index, values in enumerate(fits) if values]
                self.assertEqual(corrections(sums, length, most), rows)
                self.assertEqual(least_correction(sums, length, most), least_by_trying(sums, fits))


class Days67(unittest.TestCase):
    mosts = (1, 10 ** 15, TOP)

    def check_ends(self, sums, length, most, index, fit):
        """With the ends of the range there is a way, and beyond them there is none."""
        least, greatest = fit
        for value in (least, greatest, (least + greatest) // 2):
            self.assertTrue(has_way(with_value(sums, index, value), length, most))
        for value in (least - 1, greatest + 1):
            self.assertFalse(has_way(with_value(sums, index, value), length, most))

    def check_none(self, sums, length, most, index):
        """The sums ahead of this one, or those behind it, have no way by themselves."""
        parts = [sums[:index], sums[index + 1:]]
        self.assertTrue(any(part and not has_way(part, length, most) for part in parts))

    def check(self, sums, length, most, indices):
        found = corrections(sums, length, most)
        self.assertEqual([index for index, _, _ in found], sorted({index for index, _, _ in found}))
        told = {index: (least, greatest) for index, least, greatest in found}
        for index in indices:
            fit = fit_range(sums, length, most, index)
            self.assertEqual(fit, told.get(index))
            if fit is not None:
                self.check_ends(sums, length, most, index, fit)
            else:
                self.check_none(sums, length, most, index)
        self.check_least(sums, found, least_correction(sums, length, most))

    def check_least(self, sums, found, told):
        changes = [(least - sums[index], index, least) for index, least, _ in found if sums[index] < least]
        changes += [(sums[index] - greatest, index, greatest) for index, _, greatest in found if sums[index] > greatest]
        changes += [(0, index, sums[index]) for index, least, greatest in found if least <= sums[index] <= greatest]
        self.assertEqual(told, min(changes)[1:] if changes else None)

    def rows(self):
        for most in self.mosts:
            for length in range(1, 9):
                numbers = plainly.numbers_of_many_digits(67, most, length + most % 1000)
                yield plainly.sums_by_hand(numbers, length), length, most

    def test_right_sums(self):
        for sums, length, most in self.rows():
            last = len(sums) - 1
            self.check(sums, length, most, (0, 1, last // 2, last - 1, last))
            self.assertEqual(len(corrections(sums, length, most)), len(sums))
            self.assertEqual(least_correction(sums, length, most), (0, sums[0]))

    def test_one_wrong_sum(self):
        for sums, length, most in self.rows():
            last = len(sums) - 1
            for at in (0, 1, last // 2, last):
                for by in (-TOP * 9, -length * most - 1, length * most + 1, TOP * 9):
                    wrong = with_value(sums, at, sums[at] + by)
                    fit = fit_range(wrong, length, most, at)
                    self.assertEqual(fit, fit_range(sums, length, most, at))
                    self.assertIn((at, *fit), corrections(wrong, length, most))
                    self.check_ends(wrong, length, most, at, fit)
                    index, value = least_correction(wrong, length, most)
                    self.assertTrue(has_way(with_value(wrong, index, value), length, most))
                    self.check_least(wrong, corrections(wrong, length, most), (index, value))

    def test_one_wrong_sum_in_the_middle_is_the_only_one(self):
        for sums, length, most in self.rows():
            at = len(sums) // 2
            wrong = with_value(sums, at, -1)
            fit = fit_range(sums, length, most, at)
            self.assertEqual(corrections(wrong, length, most), [(at, *fit)])
            self.assertEqual(least_correction(wrong, length, most), (at, fit[0]))
            wrong = with_value(sums, at, length * most + 1)
            self.assertEqual(corrections(wrong, length, most), [(at, *fit)])
            self.assertEqual(least_correction(wrong, length, most), (at, fit[1]))

    def test_two_and_three_wrong_sums(self):
        for sums, length, most in self.rows():
            last = len(sums) - 1
            for places in ((0, last), (0, last // 2, last), (last // 3, 2 * last // 3)):
                wrong = [told - (length * most + 1) * (at in places) for at, told in enumerate(sums)]
                self.check(wrong, length, most, (0, 1, last // 3, last // 2, 2 * last // 3, last))
                self.assertEqual(corrections(wrong, length, most), [])
                self.assertIsNone(least_correction(wrong, length, most))

    def test_a_slip_that_two_sums_can_mend(self):
        for length in range(2, 9):
            for most in (10 ** 15, TOP):
                sums = [0, most + 1] + [most] * (66 - length)
                found = corrections(sums, length, most)
                self.assertEqual([index for index, _, _ in found][:2], [0, 1])
                self.assertEqual(least_correction(sums, length, most), (0, 1))
                self.check_ends(sums, length, most, 0, found[0][1:])
                self.check_ends(sums, length, most, 1, found[1][1:])

    def test_a_most_of_0_and_great_sums(self):
        for length in range(1, 9):
            zeros = [0] * (68 - length)
            self.assertEqual(corrections(zeros, length, 0), [(index, 0, 0) for index in range(len(zeros))])
            for at in (0, 30, len(zeros) - 1):
                wrong = with_value(zeros, at, TOP)
                self.assertEqual(corrections(wrong, length, 0), [(at, 0, 0)])
                self.assertEqual(least_correction(wrong, length, 0), (at, 0))


class Wrong(Arguments):
    def test_indices_from_0_ahead_of_the_number_of_sums(self):
        for length in range(1, 9):
            for many in (1, 2, 9, 68 - length):
                told = ([0] * many, length, TOP)
                self.assertIsNotNone(fit_range(*told, 0))
                self.assertIsNotNone(fit_range(*told, many - 1))
                for index in (-1, -many, many, many + length - 1 if length > 1 else many, 67, TOP, -TOP, 10 ** 299):
                    self.check_error(errors.InvalidIndex, fit_range, (*told, index))
        for index in (True, False, None, "0", [0], (0,), {}):
            self.check_error(errors.InvalidIndex, fit_range, ([0, 0], 2, 9, index))

    def test_an_index_that_is_not_valid_where_nothing_fits(self):
        for index in (-1, 2, None, True):
            self.check_error(errors.InvalidIndex, fit_range, ([-1, -1], 1, 9, index))

    def test_67_days_and_one_more(self):
        for length in range(1, 9):
            sums = [0] * (69 - length)
            kind = errors.InvalidSums if length == 1 else errors.InvalidLength
            self.check_error(kind, fit_range, (sums, length, TOP, 0))
            self.check_error(kind, corrections, (sums, length, TOP))
            self.check_error(kind, least_correction, (sums, length, TOP))
            for most in (-1, TOP + 1):
                self.check_error(errors.InvalidMost, fit_range, (sums[1:], length, most, -1))
                self.check_error(errors.InvalidMost, corrections, (sums[1:], length, most))
                self.check_error(errors.InvalidMost, least_correction, (sums[1:], length, most))


if __name__ == "__main__":
    unittest.main()
