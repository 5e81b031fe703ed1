"""Equal calls, new lists, arguments by name, and nothing that is passed is changed."""

import unittest

import plainly
from weeksums import errors
from weeksums.ties import days_of, forced_total, sums_of, tie_between, tied_days
from weeksums.ways import conflict_of, greatest_way, is_way, least_way, shows_conflict

TOP = plainly.TOP
LONG = plainly.numbers_of_many_digits(67, TOP, 3)
LONG_SUMS = plainly.sums_by_hand(LONG, 7)
APART = [4, 5, 15]
INNER = errors.Impossible("low", [1])


def valid_calls():
    """Calls with valid arguments, also those that raise Impossible."""
    for sums, length, most in (([4, 5, 5, 6], 2, 9), (LONG_SUMS, 7, TOP), (APART, 2, 9), ([-1, -1], 2, 9),
                               ([99, 99], 2, 9), ([0], 8, 0), ([1, 2, 3], 1, 3)):
        count = len(sums) + length - 1
        days = list(range(count - length, count))[::-1]
        yield days_of, {"sums": sums, "length": length}
        yield tied_days, {"sums": sums, "length": length, "day": count - 1}
        yield tie_between, {"sums": sums, "length": length, "first": count - 1, "second": (count - 1) % length}
        yield tie_between, {"sums": sums, "length": length, "first": 0, "second": count - 1}
        yield forced_total, {"sums": sums, "length": length, "days": days}
        for call in (conflict_of, least_way, greatest_way):
            yield call, {"sums": sums, "length": length, "most": most}
        things = (days, ("apart", days), ("apart", [1, 3]), ("low", days), ("high", days), [0] * count, LONG, None,
                  {"a": [days, (days,)]}, [[days], {"b": days}, INNER], "text", ("low", [[0], {"a": days}]))
        for call in (shows_conflict, is_way):
            for thing in things:
                yield call, {"sums": sums, "length": length, "most": most, "thing": thing}
    for numbers, length in (([3, 1, 4, 1, 5], 2), ([-7], 1), (LONG, 8)):
        yield sums_of, {"numbers": numbers, "length": length}


def invalid_calls():
    """The same with one argument that is not valid; what it holds must stay, too."""
    odd = [1, [2, {"a": (3, [4])}], INNER]
    for call, values in valid_calls():
        for name in values:
            if name != "thing":
                yield call, {**values, name: odd}


def outcome(call, args, named):
    try:
        return call(*args, **named)
    except errors.SumError as error:
        return (type(error).__name__, vars(error), str(error))


def lists_in(thing):
    if isinstance(thing, (list, tuple)):
        return [thing] * isinstance(thing, list) + [row for item in thing for row in lists_in(item)]
    if isinstance(thing, dict):
        return [row for item in thing.values() for row in lists_in(item)]
    return []


class Calls(unittest.TestCase):
    def every_call(self):
        yield from valid_calls()
        yield from invalid_calls()

    def test_nothing_that_is_passed_is_changed(self):
        for call, values in self.every_call():
            before = repr(values)
            outcome(call, (), values)
            self.assertEqual(repr(values), before, call.__name__)

    def test_by_position_by_name_and_mixed(self):
        for call, values in self.every_call():
            args = list(values.values())
            told = outcome(call, args, {})
            self.assertEqual(outcome(call, (), values), told)
            self.assertEqual(outcome(call, (), dict(reversed(values.items()))), told)
            self.assertEqual(outcome(call, args[:1], dict(list(values.items())[1:])), told)

    def test_equal_calls_return_equal_results_in_new_lists(self):
        for call, values in self.every_call():
            first = outcome(call, (), values)
            second = outcome(call, (), values)
            self.assertEqual(first, second)
            self.assertIs(type(first), type(second))
            found = lists_in(first) + lists_in(second) + lists_in(values)
            told = lists_in(first) + lists_in(second)
            for row in told:
                self.assertEqual(len([other for other in found if other is row]), 1, call.__name__)

    def test_a_returned_list_that_is_changed_changes_no_later_result(self):
        for call, values in valid_calls():
            first = outcome(call, (), values)
            text = repr(first)
            for row in lists_in(first):
                row.append(-1)
                row[0] = "changed"
            self.assertEqual(repr(outcome(call, (), values)), text)

    def test_kinds_of_the_results(self):
        kinds = {
            sums_of: (list,), days_of: (int,), tied_days: (list,), tie_between: (int, type(None)),
            forced_total: (int,), conflict_of: (tuple, type(None)), shows_conflict: (bool,), is_way: (bool,),
            least_way: (list,), greatest_way: (list,),
        }
        for call, values in valid_calls():
            try:
                told = call(**values)
            except errors.Impossible:
                continue
            self.assertIn(type(told), kinds[call], call.__name__)

    def test_results_may_be_passed_back(self):
        wide = sums_of([TOP] * 67, 8)
        self.assertEqual(wide, [8 * TOP] * 60)
        self.assertEqual(least_way(wide, 8, TOP), [TOP] * 67)
        self.assertEqual(sums_of(least_way(LONG_SUMS, 7, TOP), 7), LONG_SUMS)
        self.assertTrue(shows_conflict(APART, 2, 9, conflict_of(APART, 2, 9)))


class Impossibles(unittest.TestCase):
    def test_the_list_that_is_kept_is_a_new_one_each_time(self):
        for call in (least_way, greatest_way):
            told = conflict_of(APART, 2, 9)
            kept = []
            for _ in range(2):
                with self.assertRaises(errors.Impossible) as caught:
                    call(APART, 2, 9)
                kept.append(caught.exception.days)
            self.assertEqual(kept, [told[1], told[1]])
            self.assertIsNot(kept[0], kept[1])
            kept[0].append(7)
            self.assertEqual(kept[1], [1, 3])
            self.assertEqual(conflict_of(APART, 2, 9), ("apart", [1, 3]))

    def test_no_error_changes_when_a_passed_list_is_changed_later(self):
        sums = list(APART)
        with self.assertRaises(errors.Impossible) as caught:
            least_way(sums, 2, 9)
        sums[:] = [0]
        self.assertEqual((caught.exception.word, caught.exception.days), ("apart", [1, 3]))


if __name__ == "__main__":
    unittest.main()
