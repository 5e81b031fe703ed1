"""Arguments that are not valid, and which of several decides the error."""

import unittest
from itertools import product

import plainly
from weeksums import errors
from weeksums.ties import days_of, forced_total, sums_of, tie_between, tied_days
from weeksums.ways import conflict_of, greatest_way, is_way, least_way, shows_conflict

TOP = plainly.TOP
SUMS = [4, 5, 5, 6]
NUMBERS = [3, 1, 4, 1, 5]

# Each function with valid arguments, in the order of its signature, and the
# error of each of them; thing has none.
CALLS = (
    (sums_of, [("numbers", NUMBERS), ("length", 2)]),
    (days_of, [("sums", SUMS), ("length", 2)]),
    (tied_days, [("sums", SUMS), ("length", 2), ("day", 1)]),
    (tie_between, [("sums", SUMS), ("length", 2), ("first", 0), ("second", 4)]),
    (forced_total, [("sums", SUMS), ("length", 2), ("days", [4, 1])]),
    (conflict_of, [("sums", SUMS), ("length", 2), ("most", 9)]),
    (shows_conflict, [("sums", SUMS), ("length", 2), ("most", 9), ("thing", ("low", [0, 1]))]),
    (is_way, [("sums", SUMS), ("length", 2), ("most", 9), ("thing", NUMBERS)]),
    (least_way, [("sums", SUMS), ("length", 2), ("most", 9)]),
    (greatest_way, [("sums", SUMS), ("length", 2), ("most", 9)]),
)
ERRORS = {
    "sums": errors.InvalidSums, "numbers": errors.InvalidNumbers, "length": errors.InvalidLength,
    "most": errors.InvalidMost, "day": errors.InvalidDay, "first": errors.InvalidDay,
    "second": errors.InvalidDay, "days": errors.InvalidDays,
}
DEEP = [1]
for _ in range(19):
    DEEP = [DEEP]
NO_INTEGERS = (None, True, False, "", "1", [], [1], (1,), {}, {"a": 1}, DEEP, errors.InvalidDay("none"))
NO_ROWS = (
    None, True, 0, 7, 10 ** 30, "", "4 5 5 6", (), tuple(SUMS), {}, {"a": [1]}, [], [SUMS], [tuple(SUMS)], DEEP,
    [0] * 68, [0] * 4000, errors.Impossible("low", [1]), ("low", [0, 1]), [None], [True],
)
WRONG = {
    "sums": NO_ROWS,
    "numbers": NO_ROWS,
    "length": (0, -1, 9, 10 ** 30, -(10 ** 30), True, False, None, "2", [2]),
    "most": (-1, TOP + 1, -TOP, True, False, None, "9", [9]),
    "day": (-1, 5, 67, TOP, -TOP, True, False, None, "1", [1]),
    "days": (
        None, True, 0, "01", (), (0, 1), {}, {"0": 0, "1": 1}, [], [0], [1], [0, 1, 2], [0, 1, 2, 3], [0, 2], [0, 0],
        [1, 3], [3, 3], [-1, 0], [0, -1], [-2, 1], [5, 0], [0, 5], [6, 1], [0, 67], [TOP, 1], [True, 0], [0, True],
        [False, 1], [None, 1], [0, None], ["0", 1], [0, "1"], [[0], 1], [[0, 1]], [(0, 1)], DEEP, [0] * 4000,
        errors.InvalidDay("none"), ("low", [0, 1]),
    ),
}
WRONG["first"] = WRONG["second"] = WRONG["day"]
NAMES = [name for name in vars(errors) if isinstance(getattr(errors, name), type)]


class Arguments(unittest.TestCase):
    def check_error(self, kind, call, values, by_name=()):
        """The call raises an object of just this class among the package's."""
        with self.assertRaises(ValueError, msg=(call.__name__, values)) as caught:
            call(*values, **dict(by_name))
        error = caught.exception
        self.assertIs(type(error), kind, (call.__name__, values, by_name))
        found = [name for name in NAMES if isinstance(error, getattr(errors, name))]
        self.assertEqual(sorted(found), sorted([kind.__name__, "SumError"]))


class EachWrongArgument(Arguments):
    def test_each_error_of_its_own(self):
        for call, told in CALLS:
            values = [value for _, value in told]
            call(*values)
            for at, (name, _) in enumerate(told):
                for wrong in WRONG.get(name, ()):
                    self.check_error(ERRORS[name], call, values[:at] + [wrong] + values[at + 1:])

    def test_by_name_in_any_sequence(self):
        for call, told in CALLS:
            for at, (name, _) in enumerate(told):
                for wrong in WRONG.get(name, ()):
                    changed = told[:at] + [(name, wrong)] + told[at + 1:]
                    self.check_error(ERRORS[name], call, (), changed[::-1])

    def test_of_several_the_first_of_the_signature_decides(self):
        for call, told in CALLS:
            choices = [(value,) + WRONG.get(name, ())[:3] for name, value in told]
            for values in product(*choices):
                wrong = [name for (name, _), row, value in zip(told, choices, values)
                         if name in ERRORS and value is not row[0]]
                if wrong:
                    self.check_error(ERRORS[wrong[0]], call, values)

    def test_all_wrong_at_once(self):
        for call, told in CALLS:
            self.check_error(ERRORS[told[0][0]], call, [None for _ in told])
            self.check_error(ERRORS[told[1][0]], call, [told[0][1]] + [None for _ in told[1:]])

    def test_a_wrong_item_at_any_place_of_a_long_list(self):
        for call, told in CALLS:
            name = told[0][0]
            others = [1] + [{"day": 0, "first": 0, "second": 0, "days": [0], "most": 9, "thing": None}[other]
                            for other, _ in told[2:]]
            call([5] * 67, *others)
            for at in (0, 1, 33, 65, 66):
                for odd in NO_INTEGERS:
                    row = [5] * 67
                    row[at] = odd
                    self.check_error(ERRORS[name], call, [row] + others)

    def test_invalid_sums_decide_ahead_of_a_way_that_is_missing(self):
        for call in (least_way, greatest_way):
            self.check_error(errors.InvalidSums, call, ([-1, True], 2, 9))
            self.check_error(errors.InvalidLength, call, ([-1, -1], 9, 9))
            self.check_error(errors.InvalidMost, call, ([-1, -1], 2, -1))
            self.check_error(errors.Impossible, call, ([-1, -1], 2, 9))

    def test_too_few_and_too_many_arguments(self):
        for call, told in CALLS:
            values = [value for _, value in told]
            for odd in (values[:-1], values + [1]):
                with self.assertRaises(TypeError):
                    call(*odd)


class Limits(Arguments):
    def valid_calls(self, sums, length):
        self.assertEqual(days_of(sums, length), len(sums) + length - 1)
        days = list(range(length))
        self.assertEqual(tied_days(sums, length, 0)[0], 0)
        self.assertEqual(tie_between(sums, length, 0, 0), 0)
        self.assertEqual(forced_total(sums, length, days), sums[0])
        self.assertIsNone(conflict_of(sums, length, TOP))
        self.assertFalse(shows_conflict(sums, length, TOP, ("low", days)))
        self.assertTrue(is_way(sums, length, TOP, [0] * (len(sums) + length - 1)))
        self.assertEqual(least_way(sums, length, TOP), greatest_way(sums, length, TOP))

    def invalid_calls(self, kind, sums, length):
        self.check_error(kind, days_of, (sums, length))
        self.check_error(kind, tied_days, (sums, length, 0))
        self.check_error(kind, tie_between, (sums, length, 0, 0))
        self.check_error(kind, forced_total, (sums, length, list(range(length))))
        for call in (conflict_of, least_way, greatest_way):
            self.check_error(kind, call, (sums, length, TOP))
        for call in (shows_conflict, is_way):
            self.check_error(kind, call, (sums, length, TOP, [0] * (len(sums) + length - 1)))

    def test_67_days_and_one_more(self):
        for length in range(1, 9):
            self.valid_calls([0] * (68 - length), length)
            kind = errors.InvalidSums if length == 1 else errors.InvalidLength
            self.invalid_calls(kind, [0] * (69 - length), length)

    def test_1_to_67_sums(self):
        self.valid_calls([0], 1)
        self.valid_calls([0] * 67, 1)
        self.invalid_calls(errors.InvalidSums, [], 1)
        self.invalid_calls(errors.InvalidSums, [0] * 68, 1)
        self.invalid_calls(errors.InvalidLength, [0] * 67, 2)

    def test_length_from_1_to_8(self):
        for length in range(1, 9):
            self.valid_calls([0], length)
            self.valid_calls([0, 0], length)
        for length in (-1, 0, 9, 10):
            self.invalid_calls(errors.InvalidLength, [0, 0], length)

    def test_most_from_0(self):
        for most in (0, 1, TOP - 1, TOP):
            self.assertIsNone(conflict_of([0, 0], 2, most))
            self.assertEqual(least_way([0, 0], 2, most), [0, 0, 0])
        for most in (-1, TOP + 1):
            for call in (conflict_of, least_way, greatest_way):
                self.check_error(errors.InvalidMost, call, ([0, 0], 2, most))
            for call in (shows_conflict, is_way):
                self.check_error(errors.InvalidMost, call, ([0, 0], 2, most, [0, 0, 0]))

    def test_numbers_and_their_length(self):
        self.assertEqual(sums_of([0] * 67, 8), [0] * 60)
        self.assertEqual(sums_of([0] * 67, 1), [0] * 67)
        self.check_error(errors.InvalidNumbers, sums_of, ([0] * 68, 8))
        self.check_error(errors.InvalidNumbers, sums_of, ([], 1))
        for many in range(1, 12):
            for length in range(0, 12):
                if 1 <= length <= min(8, many):
                    self.assertEqual(sums_of([1] * many, length), [length] * (many - length + 1))
                else:
                    self.check_error(errors.InvalidLength, sums_of, ([1] * many, length))

    def test_days_from_0_ahead_of_n(self):
        for length in range(1, 9):
            for many in (1, 2, 9, 68 - length):
                sums = [0] * many
                count = many + length - 1
                self.assertIn(count - 1, tied_days(sums, length, count - 1))
                self.assertEqual(tie_between(sums, length, count - 1, count - 1), 0)
                last = list(range(count - length, count))
                self.assertEqual(forced_total(sums, length, last), 0)
                for day in (-1, -length, count, count + length):
                    self.check_error(errors.InvalidDay, tied_days, (sums, length, day))
                    self.check_error(errors.InvalidDay, tie_between, (sums, length, day, 0))
                    self.check_error(errors.InvalidDay, tie_between, (sums, length, 0, day))
                    for at in range(length):
                        odd = [day if other % length == day % length else other for other in last]
                        self.check_error(errors.InvalidDays, forced_total, (sums, length, odd[at:] + odd[:at]))

    def test_one_day_of_each_class(self):
        sums = [0] * 60
        days = [8, 1, 58, 3, 60, 13, 6, 63]
        self.assertEqual(forced_total(sums, 8, days), 0)
        for at in range(8):
            self.check_error(errors.InvalidDays, forced_total, (sums, 8, days[:at] + days[at + 1:]))
            self.check_error(errors.InvalidDays, forced_total, (sums, 8, days + [days[at]]))
            for odd in NO_INTEGERS + (days[at - 1], days[at - 1] % 8, -1, 67):
                if odd != days[at]:
                    self.check_error(errors.InvalidDays, forced_total, (sums, 8, days[:at] + [odd] + days[at + 1:]))


if __name__ == "__main__":
    unittest.main()
