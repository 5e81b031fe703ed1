"""Arguments that are not valid, and which of several decides the error."""

import unittest
from itertools import product

import plainly
from checking import DEEP, NO_INTEGERS, Arguments
from weeksums import errors
from weeksums.counts import count_ways, count_with, nth_way, way_index
from weeksums.levels import greatest_floor, least_peak, least_spread, peak_paper, way_within
from weeksums.pairs import have_common, joined_days, joint_sums, shows_disagreement
from weeksums.ranges import (all_ranges, certain_days, day_range, difference_range, next_range, row_range,
                             total_range)
from weeksums.rings import ring_least, ring_line, ring_sums, ring_ways, shows_open
from weeksums.rough import is_rough_way, rough_conflict, rough_range, rough_way, shows_rough
from weeksums.slips import corrections, fit_range, least_correction
from weeksums.texts import write_bounds, write_sums, write_way
from weeksums.ties import days_of, forced_total, sums_of, tie_between, tied_days
from weeksums.ways import conflict_of, greatest_way, is_way, least_way, shows_conflict

TOP = plainly.TOP
SUMS = [4, 5, 5, 6]
NUMBERS = [3, 1, 4, 1, 5]

TOLD = [("sums", SUMS), ("length", 2), ("most", 9)]
BOTH = [("sums", SUMS), ("length", 2), ("other", [8, 6, 10]), ("other_length", 3)]
RING = [("sums", [4, 5, 5, 4]), ("length", 2)]
ROUGH = [("bounds", [(4, 4), (5, 5), (5, 7), (6, 6)]), ("length", 2), ("most", 9)]

# Each function with valid arguments, in the order of its signature, and the
# error of each of them; thing, low and high have none.
CALLS = (
    (sums_of, [("numbers", NUMBERS), ("length", 2)]),
    (days_of, [("sums", SUMS), ("length", 2)]),
    (tied_days, [("sums", SUMS), ("length", 2), ("day", 1)]),
    (tie_between, [("sums", SUMS), ("length", 2), ("first", 0), ("second", 4)]),
    (forced_total, [("sums", SUMS), ("length", 2), ("days", [4, 1])]),
    (conflict_of, TOLD),
    (shows_conflict, TOLD + [("thing", ("low", [0, 1]))]),
    (is_way, TOLD + [("thing", NUMBERS)]),
    (least_way, TOLD),
    (greatest_way, TOLD),
    (day_range, TOLD + [("day", 4)]),
    (all_ranges, TOLD),
    (certain_days, TOLD),
    (row_range, TOLD + [("first", 1), ("beyond", 4)]),
    (total_range, TOLD + [("days", [4, 1])]),
    (difference_range, TOLD + [("first", 0), ("second", 4)]),
    (next_range, TOLD),
    (least_peak, TOLD),
    (peak_paper, TOLD),
    (greatest_floor, TOLD),
    (least_spread, TOLD),
    (way_within, TOLD + [("low", 0), ("high", 4)]),
    (count_ways, TOLD),
    (nth_way, TOLD + [("index", 4)]),
    (way_index, TOLD + [("way", NUMBERS)]),
    (count_with, TOLD + [("day", 4), ("number", 5)]),
    (joined_days, [("count", 5), ("length", 2), ("other_length", 3)]),
    (have_common, BOTH),
    (joint_sums, BOTH),
    (shows_disagreement, BOTH + [("thing", ("ring", [0, 2, 4, 1, 3, 0]))]),
    (ring_sums, [("numbers", NUMBERS), ("length", 2)]),
    (ring_line, RING),
    (shows_open, RING + [("thing", ("ring", [0, 2, 0]))]),
    (ring_ways, RING + [("most", 9)]),
    (ring_least, RING + [("most", 9)]),
    (fit_range, TOLD + [("index", 3)]),
    (corrections, TOLD),
    (least_correction, TOLD),
    (rough_conflict, ROUGH),
    (shows_rough, ROUGH + [("thing", [0, 1, 0])]),
    (is_rough_way, ROUGH + [("thing", NUMBERS)]),
    (rough_way, ROUGH),
    (rough_range, ROUGH + [("first", 1), ("beyond", 4)]),
    (write_sums, [("sums", SUMS)]),
    (write_way, [("way", NUMBERS)]),
    (write_bounds, ROUGH[:1]),
)
RINGS = (ring_sums, ring_line, shows_open, ring_ways, ring_least)
ERRORS = {
    "sums": errors.InvalidSums, "numbers": errors.InvalidNumbers, "length": errors.InvalidLength,
    "most": errors.InvalidMost, "day": errors.InvalidDay, "first": errors.InvalidDay,
    "second": errors.InvalidDay, "beyond": errors.InvalidDay, "days": errors.InvalidDays,
    "way": errors.InvalidWay, "index": errors.InvalidIndex, "number": errors.InvalidNumber,
    "other": errors.InvalidSums, "other_length": errors.InvalidLength, "count": errors.InvalidNumber,
    "bounds": errors.InvalidBounds,
}
NO_ROWS = (
    None, True, 0, 7, 10 ** 30, "", "4 5 5 6", (), tuple(SUMS), {}, {"a": [1]}, [], [SUMS], [tuple(SUMS)], DEEP,
    [0] * 68, [0] * 4000, errors.Impossible("low", [1]), ("low", [0, 1]), [None], [True],
)
WRONG = {
    "sums": NO_ROWS,
    "numbers": NO_ROWS,
    "length": (0, -1, 9, 10 ** 30, -(10 ** 30), True, False, None, "2", [2]),
    "most": (-1, TOP + 1, -TOP, True, False, None, "9", [9]),
    "day": (-1, 5, 67, TOP, -TOP, True, False, None, "1", [1]),
    "days": (
        None, True, 0, "01", (), (0, 1), {}, {"0": 0, "1": 1}, [], [0], [1], [0, 1, 2], [0, 1, 2, 3], [0, 2], [0, 0],
        [1, 3], [3, 3], [-1, 0], [0, -1], [-2, 1], [5, 0], [0, 5], [6, 1], [0, 67], [TOP, 1], [True, 0], [0, True],
        [False, 1], [None, 1], [0, None], ["0", 1], [0, "1"], [[0], 1], [[0, 1]], [(0, 1)], DEEP, [0] * 4000,
        errors.InvalidDay("none"), ("low", [0, 1]),
    ),
}
WRONG["first"] = WRONG["second"] = WRONG["day"]
WRONG["beyond"] = (-1, 6, 0, 67, TOP, -TOP, True, False, None, "5", [5])
WRONG["way"] = WRONG["days"] + (NUMBERS[:4], NUMBERS + [0], [3, 1, 4, 1, 4], [4, 1, 4, 1, 5], [5, -1, 6, -1, 7])
WRONG["index"] = (-1, -TOP, 5, TOP, 10 ** 300 - 1, True, False, None, "4", [4])
WRONG["other"] = NO_ROWS
WRONG["other_length"] = WRONG["length"]
WRONG["count"] = (0, -1, 68, TOP, -TOP, True, False, None, "5", [5])
WRONG["bounds"] = (
    None, True, 0, "4..4", (), ((4, 4),), {}, {"a": (4, 4)}, [], [4], [[4, 4]], [(4,)], [()], [(4, 4, 4)], [(5, 4)],
    [(True, 4)], [(0, True)], [(0, 1), (False, 1)], [("4", "5")], [(None, None)], [None], [(4, 4), (5, 4)], [((4,), 4)],
    [((4, 4), (4, 4))], DEEP, [(0, 0)] * 61, [(0, 0)] * 4000, errors.Impossible("low", [1]), [(TOP, -TOP)],
)
WRONG["number"] = (None, True, False, "5", [5], (5,), {})
DIFFERENT = (
    None, True, 0, "01", (), (0, 1), {}, {"0": 0, "1": 1}, [0, 0], [4, 1, 4], [0, 1, 2, 3, 4, 0], [3, 3], [-1], [-1, 0],
    [0, -1], [-5], [5], [0, 5], [67], [TOP], [TOP, 1], [0, True], [True], [False, 1], [None], [0, None, 2], ["0"],
    [0, "1"], [[0], 1], [[0, 1]], [(0, 1)], [{}], DEEP, [0] * 4000, list(range(4000)), errors.InvalidDay("none"),
)


def wrong_for(call, name):
    """The objects that are not valid for an argument."""
    if call is write_way:
        return NO_ROWS + ([-1], NUMBERS + [-1], [-TOP])
    if call in RINGS and name in ("sums", "numbers"):
        return NO_ROWS + ([0] * 61, [0] * 67)
    if call is total_range and name == "days":
        return DIFFERENT
    return WRONG.get(name, ())


class EachWrongArgument(Arguments):
    def test_each_error_of_its_own(self):
        for call, told in CALLS:
            values = [value for _, value in told]
            call(*values)
            for at, (name, _) in enumerate(told):
                for wrong in wrong_for(call, name):
                    self.check_error(ERRORS[name], call, values[:at] + [wrong] + values[at + 1:])

    def test_by_name_in_any_sequence(self):
        for call, told in CALLS:
            for at, (name, _) in enumerate(told):
                for wrong in wrong_for(call, name):
                    changed = told[:at] + [(name, wrong)] + told[at + 1:]
                    self.check_error(ERRORS[name], call, (), changed[::-1])

    def test_of_several_the_first_of_the_signature_decides(self):
        for call, told in CALLS:
            choices = [(value,) + wrong_for(call, name)[:3] for name, value in told]
            for values in product(*choices):
                wrong = [name for (name, _), row, value in zip(told, choices, values)
                         if name in ERRORS and value is not row[0]]
                if wrong:
                    self.check_error(ERRORS[wrong[0]], call, values)

    def test_all_wrong_at_once(self):
        for call, told in CALLS:
            self.check_error(ERRORS[told[0][0]], call, [None for _ in told])
            if told[1:]:
                self.check_error(ERRORS[told[1][0]], call, [told[0][1]] + [None for _ in told[1:]])

    def test_a_wrong_item_at_any_place_of_a_long_list(self):
        for call, told in CALLS:
            name = told[0][0]
            if name not in ("sums", "numbers") or not told[1:]:
                continue
            valid = {"day": 0, "first": 0, "second": 0, "beyond": 0, "days": [0], "most": 9, "thing": None,
                     "low": 0, "high": 9, "index": 0, "way": [5] * 67, "number": 5, "other": [5] * 67,
                     "other_length": 1}
            others = [1] + [valid[other] for other, _ in told[2:]]
            many = 60 if call in RINGS else 67
            call([5] * many, *others)
            for at in (0, 1, 33, many - 2, many - 1):
                for odd in NO_INTEGERS:
                    row = [5] * many
                    row[at] = odd
                    self.check_error(ERRORS[name], call, [row] + others)

    def test_a_wrong_item_at_any_place_of_long_other_sums(self):
        for call in (have_common, joint_sums, shows_disagreement):
            thing = [None] if call is shows_disagreement else []
            call([5] * 67, 1, [40] * 60, 8, *thing)
            for at in (0, 1, 33, 58, 59):
                for odd in NO_INTEGERS:
                    row = [40] * 60
                    row[at] = odd
                    self.check_error(errors.InvalidSums, call, [[5] * 67, 1, row, 8] + thing)

    def test_invalid_sums_decide_ahead_of_a_way_that_is_missing(self):
        for call in (least_way, greatest_way):
            self.check_error(errors.InvalidSums, call, ([-1, True], 2, 9))
            self.check_error(errors.InvalidLength, call, ([-1, -1], 9, 9))
            self.check_error(errors.InvalidMost, call, ([-1, -1], 2, -1))
            self.check_error(errors.Impossible, call, ([-1, -1], 2, 9))

    def test_a_wrong_item_at_any_place_of_a_long_list_of_days(self):
        total_range([5] * 67, 1, 9, list(range(67))[::-1])
        for at in (0, 33, 66):
            for odd in NO_INTEGERS + (-1, 67, (at + 1) % 67, TOP):
                days = list(range(67))
                days[at] = odd
                self.check_error(errors.InvalidDays, total_range, ([5] * 67, 1, 9, days))

    def test_a_wrong_item_at_any_place_of_a_long_way(self):
        self.assertEqual(way_index([5] * 67, 1, 9, [5] * 67), 0)
        for at in (0, 33, 66):
            for odd in NO_INTEGERS + (4, 6, -1, 10):
                way = [5] * 67
                way[at] = odd
                self.check_error(errors.InvalidWay, way_index, ([5] * 67, 1, 9, way))

    def test_too_few_and_too_many_arguments(self):
        for call, told in CALLS:
            values = [value for _, value in told]
            for odd in (values[:-1], values + [1]):
                with self.assertRaises(TypeError):
                    call(*odd)


class WithoutAWay(Arguments):
    needy = [(call, told) for call, told in CALLS if told[:3] == TOLD and call not in (
        conflict_of, shows_conflict, is_way, way_within, count_ways, count_with, fit_range, corrections,
        least_correction)]
    none = (([0, 0, 0, 9], 2, 8), ([-1, -1, -1, -1], 2, 9), ([99, 99, 99, 99], 2, 9))

    def test_impossible_behind_valid_arguments(self):
        self.assertEqual(len(self.needy), 15)
        for call, told in self.needy:
            for row in self.none:
                with self.assertRaises(errors.Impossible) as caught:
                    call(*row, *[value for _, value in told[3:]])
                error = caught.exception
                self.assertIs(type(error), errors.Impossible)
                self.assertEqual((error.word, error.days), conflict_of(*row))

    def stands_behind(self, call, name, wrong):
        """Whether the error of this object stands behind Impossible."""
        return name == "way" or (call is nth_way and name == "index" and type(wrong) is int and wrong >= 0)

    def test_an_argument_that_is_not_valid_decides_ahead_of_impossible(self):
        for call, told in CALLS:
            for at, (name, _) in enumerate(told):
                if told[:3] != TOLD:
                    continue
                for wrong, row in product(wrong_for(call, name), self.none):
                    values = list(row) + [value for _, value in told[3:]]
                    values[at] = wrong
                    kind = errors.Impossible if self.stands_behind(call, name, wrong) else ERRORS[name]
                    self.check_error(kind, call, values)

    def test_where_no_way_is_needed(self):
        for row in self.none:
            self.assertEqual(count_ways(*row), 0)
            self.assertIsNone(way_within(*row, 0, 9))
            for number in (0, -TOP, TOP):
                self.assertEqual(count_with(*row, 4, number), 0)


class Limits(Arguments):
    def valid_calls(self, sums, length):
        self.assertEqual(days_of(sums, length), len(sums) + length - 1)
        days = list(range(length))
        self.assertEqual(tied_days(sums, length, 0)[0], 0)
        self.assertEqual(tie_between(sums, length, 0, 0), 0)
        self.assertEqual(forced_total(sums, length, days), sums[0])
        self.assertIsNone(conflict_of(sums, length, TOP))
        self.assertFalse(shows_conflict(sums, length, TOP, ("low", days)))
        self.assertTrue(is_way(sums, length, TOP, [0] * (len(sums) + length - 1)))
        self.assertEqual(least_way(sums, length, TOP), greatest_way(sums, length, TOP))
        count = len(sums) + length - 1
        self.assertEqual(all_ranges(sums, length, TOP), [(0, 0)] * count)
        self.assertEqual(certain_days(sums, length, TOP), [(day, 0) for day in range(count)])
        self.assertEqual(next_range(sums, length, TOP), (0, TOP))
        self.assertEqual(total_range(sums, length, TOP, list(range(count))[::-1]), (0, 0))
        self.assertEqual(way_within(sums, length, TOP, -TOP, 0), [0] * count)
        self.assertEqual([call(sums, length, TOP) for call in (least_peak, greatest_floor, least_spread)], [0, 0, 0])
        self.assertEqual(peak_paper(sums, length, TOP)[0], "apart" if len(sums) > 1 else "high")
        self.assertEqual(count_ways(sums, length, TOP), 1)
        self.assertEqual(nth_way(sums, length, TOP, 0), [0] * count)
        self.assertEqual(way_index(sums, length, TOP, [0] * count), 0)

    def invalid_calls(self, kind, sums, length, most=TOP):
        if kind is not errors.InvalidMost:
            self.check_error(kind, days_of, (sums, length))
            self.check_error(kind, tied_days, (sums, length, 0))
            self.check_error(kind, tie_between, (sums, length, 0, 0))
            self.check_error(kind, forced_total, (sums, length, list(range(length))))
        for call in (conflict_of, least_way, greatest_way):
            self.check_error(kind, call, (sums, length, most))
        for call in (shows_conflict, is_way, way_index):
            self.check_error(kind, call, (sums, length, most, [0] * (len(sums) + length - 1)))
        for call in (all_ranges, certain_days, next_range, least_peak, peak_paper, greatest_floor, least_spread,
                     count_ways):
            self.check_error(kind, call, (sums, length, most))
        for call in (day_range, nth_way):
            self.check_error(kind, call, (sums, length, most, 0))
        for call in (row_range, difference_range, way_within, count_with):
            self.check_error(kind, call, (sums, length, most, 0, 0))
        self.check_error(kind, total_range, (sums, length, most, [0]))

    def test_67_days_and_one_more(self):
        for length in range(1, 9):
            self.valid_calls([0] * (68 - length), length)
            kind = errors.InvalidSums if length == 1 else errors.InvalidLength
            self.invalid_calls(kind, [0] * (69 - length), length)

    def test_1_to_67_sums(self):
        self.valid_calls([0], 1)
        self.valid_calls([0] * 67, 1)
        self.invalid_calls(errors.InvalidSums, [], 1)
        self.invalid_calls(errors.InvalidSums, [0] * 68, 1)
        self.invalid_calls(errors.InvalidLength, [0] * 67, 2)

    def test_length_from_1_to_8(self):
        for length in range(1, 9):
            self.valid_calls([0], length)
            self.valid_calls([0, 0], length)
        for length in (-1, 0, 9, 10):
            self.invalid_calls(errors.InvalidLength, [0, 0], length)

    def test_most_from_0(self):
        for most in (0, 1, TOP - 1, TOP):
            self.assertIsNone(conflict_of([0, 0], 2, most))
            self.assertEqual(least_way([0, 0], 2, most), [0, 0, 0])
        for most in (-1, TOP + 1):
            self.invalid_calls(errors.InvalidMost, [0, 0], 2, most)

    def test_numbers_and_their_length(self):
        self.assertEqual(sums_of([0] * 67, 8), [0] * 60)
        self.assertEqual(sums_of([0] * 67, 1), [0] * 67)
        self.check_error(errors.InvalidNumbers, sums_of, ([0] * 68, 8))
        self.check_error(errors.InvalidNumbers, sums_of, ([], 1))
        for many in range(1, 12):
            for length in range(0, 12):
                if 1 <= length <= min(8, many):
                    self.assertEqual(sums_of([1] * many, length), [length] * (many - length + 1))
                else:
                    self.check_error(errors.InvalidLength, sums_of, ([1] * many, length))

    def test_days_from_0_ahead_of_n(self):
        for length in range(1, 9):
            for many in (1, 2, 9, 68 - length):
                sums = [0] * many
                count = many + length - 1
                self.assertIn(count - 1, tied_days(sums, length, count - 1))
                self.assertEqual(tie_between(sums, length, count - 1, count - 1), 0)
                last = list(range(count - length, count))
                self.assertEqual(forced_total(sums, length, last), 0)
                for day in (-1, -length, count, count + length):
                    self.check_error(errors.InvalidDay, tied_days, (sums, length, day))
                    self.check_error(errors.InvalidDay, tie_between, (sums, length, day, 0))
                    self.check_error(errors.InvalidDay, tie_between, (sums, length, 0, day))
                    for at in range(length):
                        odd = [day if other % length == day % length else other for other in last]
                        self.check_error(errors.InvalidDays, forced_total, (sums, length, odd[at:] + odd[:at]))

    def test_days_of_the_ranges_from_0_ahead_of_n(self):
        for length in range(1, 9):
            for many in (1, 2, 9, 68 - length):
                told = ([0] * many, length, TOP)
                count = many + length - 1
                self.assertEqual(day_range(*told, count - 1), (0, 0))
                self.assertEqual(difference_range(*told, count - 1, count - 1), (0, 0))
                self.assertEqual(count_with(*told, count - 1, 0), 1)
                self.assertEqual(total_range(*told, [count - 1]), (0, 0))
                for day in (-1, -length, -count, count, count + length, 67):
                    self.check_error(errors.InvalidDay, day_range, (*told, day))
                    self.check_error(errors.InvalidDay, difference_range, (*told, day, 0))
                    self.check_error(errors.InvalidDay, difference_range, (*told, 0, day))
                    self.check_error(errors.InvalidDay, count_with, (*told, day, 0))
                    self.check_error(errors.InvalidDays, total_range, (*told, [day]))

    def test_rows_from_0_to_n(self):
        for length in (1, 2, 8):
            for many in (1, 2, 9, 68 - length):
                told = ([0] * many, length, TOP)
                count = many + length - 1
                for first in (-2, -1, 0, 1, count - 1, count, count + 1):
                    for beyond in (-2, -1, 0, 1, count - 1, count, count + 1):
                        if 0 <= first <= beyond <= count:
                            self.assertEqual(row_range(*told, first, beyond), (0, 0))
                        else:
                            self.check_error(errors.InvalidDay, row_range, (*told, first, beyond))

    def test_indices_from_0_ahead_of_the_number_of_ways(self):
        for length in range(2, 9):
            told = ([5], length, 5)
            many = count_ways(*told)
            for index in (0, many // 2, many - 1):
                self.assertEqual(way_index(*told, nth_way(*told, index)), index)
            for index in (-many, -1, many, many + 1, 10 ** 30, 10 ** 299, 10 ** 300 - 1):
                self.check_error(errors.InvalidIndex, nth_way, (*told, index))

    def test_one_day_of_each_class(self):
        sums = [0] * 60
        days = [8, 1, 58, 3, 60, 13, 6, 63]
        self.assertEqual(forced_total(sums, 8, days), 0)
        for at in range(8):
            self.check_error(errors.InvalidDays, forced_total, (sums, 8, days[:at] + days[at + 1:]))
            self.check_error(errors.InvalidDays, forced_total, (sums, 8, days + [days[at]]))
            for odd in NO_INTEGERS + (days[at - 1], days[at - 1] % 8, -1, 67):
                if odd != days[at]:
                    self.check_error(errors.InvalidDays, forced_total, (sums, 8, days[:at] + [odd] + days[at + 1:]))


if __name__ == "__main__":
    unittest.main()
