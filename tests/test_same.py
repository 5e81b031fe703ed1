"""Equal calls, new lists, arguments by name, and nothing that is passed is changed."""

import unittest

import plainly
from weeksums import errors
from weeksums.counts import count_ways, count_with, nth_way, way_index
from weeksums.levels import greatest_floor, least_peak, least_spread, peak_paper, way_within
from weeksums.pairs import have_common, joined_days, joint_sums, shows_disagreement
from weeksums.ranges import (all_ranges, certain_days, day_range, difference_range, next_range, row_range,
                             total_range)
from weeksums.rings import ring_least, ring_line, ring_sums, ring_ways, shows_open
from weeksums.rough import is_rough_way, rough_conflict, rough_range, rough_way, shows_rough
from weeksums.session import session
from weeksums.slips import corrections, fit_range, least_correction
from weeksums.texts import read_bounds, read_sums, read_way, write_bounds, write_sums, write_way
from weeksums.ties import days_of, forced_total, sums_of, tie_between, tied_days
from weeksums.ways import conflict_of, greatest_way, is_way, least_way, shows_conflict

TOP = plainly.TOP
LONG = plainly.numbers_of_many_digits(67, TOP, 3)
LONG_SUMS = plainly.sums_by_hand(LONG, 7)
APART = [4, 5, 15]
INNER = errors.Impossible("low", [1])


def calls_of_ways(told, days):
    """Calls of the functions of ranges, levels and counts."""
    count = len(told["sums"]) + told["length"] - 1
    for call in (all_ranges, certain_days, next_range, least_peak, peak_paper, greatest_floor, least_spread,
                 count_ways):
        yield call, told
    for call in (day_range, count_with):
        for day in (0, count - 1):
            yield call, {**told, "day": day, **({"number": 2} if call is count_with else {})}
    for first, beyond in ((0, count), (count, count), (0, 0), (1, count)):
        yield row_range, {**told, "first": first, "beyond": beyond}
    for chosen in ([], days, days[:1]):
        yield total_range, {**told, "days": chosen}
    yield difference_range, {**told, "first": count - 1, "second": 0}
    for low, high in ((0, told["most"]), (-TOP, TOP), (2, 1), (1, 8)):
        yield way_within, {**told, "low": low, "high": high}
    for index in (0, 1, 3, 10 ** 150):
        yield nth_way, {**told, "index": index}
    ways = ([3, 1, 4, 1, 5], [1, 3, 2, 3, 3], LONG, [0] * 8, [1, 2, 3], [3, [1]], None, {"a": days}, [[days]])
    for way in ways:
        yield way_index, {**told, "way": way}


def calls_of_pairs():
    """Calls of the functions of two rows of sums, also of those that do not agree."""
    for count, length, other_length in ((5, 2, 3), (67, 8, 7), (8, 4, 6), (8, 8, 8), (3, 2, 3)):
        yield joined_days, {"count": count, "length": length, "other_length": other_length}
    pairs = (([4, 5, 5, 6], 2, [8, 6, 10], 3), ([4, 5, 5, 6], 2, [8, 6, 11], 3), ([4, 5, 5, 6], 2, [9, 7, 11], 3),
             ([4, 5], 2, [9], 3), ([4, 5], 2, [4, 5], 2), ([4, 5], 2, [4, 6], 2), ([4, 5], 2, [4], 2),
             (LONG_SUMS, 7, plainly.sums_by_hand(LONG, 4), 4), (LONG_SUMS, 7, [5] * 60, 8))
    things = (("ring", [0, 2, 4, 1, 3, 0]), ("ring", [[0], {"a": [2]}]), ("parts", []), {"a": [[0], ([0],)]}, INNER)
    for sums, length, other, other_length in pairs:
        told = {"sums": sums, "length": length, "other": other, "other_length": other_length}
        yield have_common, told
        yield joint_sums, told
        for thing in things:
            yield shows_disagreement, {**told, "thing": thing}


def calls_of_rings():
    """Calls of the functions of days in a ring, also of sums that leave it open."""
    things = (("ring", [0, 2, 0]), ("ring", [[0], {"a": [2]}]), ("parts", []), {"a": [[0], ([0],)]}, INNER)
    for sums, length in (([4, 5, 5, 4], 2), ([4, 5, 5, 5], 2), ([1, 2, 4], 2), ([7], 1), (LONG[:60], 1),
                         (ring_sums(LONG[:60], 8), 8)):
        told = {"sums": sums, "length": length}
        yield ring_sums, {"numbers": sums, "length": length}
        yield ring_line, told
        for thing in things:
            yield shows_open, {**told, "thing": thing}
        for call in (ring_ways, ring_least):
            for most in (3, 9, TOP):
                yield call, {**told, "most": most}


def calls_of_rough_sums():
    """Calls of the functions of bounds, also of those without a way."""
    far = [(told - 5, told + 5) for told in sums_of(LONG, 8)]
    things = ([0, 1, 0], [2, 1, 3, 4, 2], [3, 1, 4, 1, 5], [[0], {"a": [2]}], ("walk", [0]), {"a": [[0], ([0],)]}, INNER)
    for bounds, length, most in (([(4, 4), (5, 5), (5, 7), (6, 6)], 2, 9), ([(4, 4), (5, 5), (15, 15)], 2, 9), (far, 8, TOP),
                                 ([(-1, -1)] * 60, 8, TOP), ([(0, 3), (2, 5)], 1, 4)):
        told = {"bounds": bounds, "length": length, "most": most}
        yield rough_conflict, told
        yield rough_way, told
        for call in (shows_rough, is_rough_way):
            for thing in things:
                yield call, {**told, "thing": thing}
        for first, beyond in ((0, 0), (0, 2), (1, 2)):
            yield rough_range, {**told, "first": first, "beyond": beyond}
        yield write_bounds, {"bounds": bounds}


def calls_of_texts():
    """Calls of the functions of texts and of sessions."""
    for numbers in ([4, 5, 5, 6], LONG, [0]):
        yield write_sums, {"sums": numbers}
        yield write_way, {"way": numbers}
    for text in ("4 5 5 6", "0", "", "-3 x", "3 -3", "4..5 5..5", "4..5 5..4", " ", "watch 2 9\nadd 4\nleast\nadd 99\n"):
        for call in (read_sums, read_way, read_bounds):
            yield call, {"text": text}
        yield session, {"rows": text}


def valid_calls():
    """Calls with valid arguments, also those that raise Impossible or what stands behind it."""
    yield from calls_of_pairs()
    yield from calls_of_rings()
    yield from calls_of_rough_sums()
    yield from calls_of_texts()
    for sums, length, most in (([4, 5, 5, 6], 2, 9), (LONG_SUMS, 7, TOP), (APART, 2, 9), ([-1, -1], 2, 9),
                               ([99, 99], 2, 9), ([0], 8, 0), ([1, 2, 3], 1, 3)):
        count = len(sums) + length - 1
        days = list(range(count - length, count))[::-1]
        yield from calls_of_ways({"sums": sums, "length": length, "most": most}, days)
        yield days_of, {"sums": sums, "length": length}
        yield tied_days, {"sums": sums, "length": length, "day": count - 1}
        yield tie_between, {"sums": sums, "length": length, "first": count - 1, "second": (count - 1) % length}
        yield tie_between, {"sums": sums, "length": length, "first": 0, "second": count - 1}
        yield forced_total, {"sums": sums, "length": length, "days": days}
        for call in (conflict_of, least_way, greatest_way, corrections, least_correction):
            yield call, {"sums": sums, "length": length, "most": most}
        for index in (0, len(sums) - 1):
            yield fit_range, {"sums": sums, "length": length, "most": most, "index": index}
        things = (days, ("apart", days), ("apart", [1, 3]), ("low", days), ("high", days), [0] * count, LONG, None,
                  {"a": [days, (days,)]}, [[days], {"b": days}, INNER], "text", ("low", [[0], {"a": days}]))
        for call in (shows_conflict, is_way):
            for thing in things:
                yield call, {"sums": sums, "length": length, "most": most, "thing": thing}
    for numbers, length in (([3, 1, 4, 1, 5], 2), ([-7], 1), (LONG, 8)):
        yield sums_of, {"numbers": numbers, "length": length}


def invalid_calls():
    """The same with one argument that is not valid; what it holds must stay, too."""
    odd = [1, [2, {"a": (3, [4])}], INNER]
    for call, values in valid_calls():
        for name in values:
            if name not in ("thing", "low", "high", "text", "rows"):
                yield call, {**values, name: odd}


def outcome(call, args, named):
    try:
        return call(*args, **named)
    except errors.SumError as error:
        return (type(error).__name__, vars(error), str(error))


def lists_in(thing):
    if isinstance(thing, (list, tuple)):
        return [thing] * isinstance(thing, list) + [row for item in thing for row in lists_in(item)]
    if isinstance(thing, dict):
        return [row for item in thing.values() for row in lists_in(item)]
    return []


class Calls(unittest.TestCase):
    def every_call(self):
        yield from valid_calls()
        yield from invalid_calls()

    def test_nothing_that_is_passed_is_changed(self):
        for call, values in self.every_call():
            before = repr(values)
            outcome(call, (), values)
            self.assertEqual(repr(values), before, call.__name__)

    def test_by_position_by_name_and_mixed(self):
        for call, values in self.every_call():
            args = list(values.values())
            told = outcome(call, args, {})
            self.assertEqual(outcome(call, (), values), told)
            self.assertEqual(outcome(call, (), dict(reversed(values.items()))), told)
            self.assertEqual(outcome(call, args[:1], dict(list(values.items())[1:])), told)

    def test_equal_calls_return_equal_results_in_new_lists(self):
        for call, values in self.every_call():
            first = outcome(call, (), values)
            second = outcome(call, (), values)
            self.assertEqual(first, second)
            self.assertIs(type(first), type(second))
            found = lists_in(first) + lists_in(second) + lists_in(values)
            told = lists_in(first) + lists_in(second)
            for row in told:
                self.assertEqual(len([other for other in found if other is row]), 1, call.__name__)

    def test_a_returned_list_that_is_changed_changes_no_later_result(self):
        for call, values in valid_calls():
            first = outcome(call, (), values)
            text = repr(first)
            for row in lists_in(first):
                row.append(-1)
                row[0] = "changed"
            self.assertEqual(repr(outcome(call, (), values)), text)

    def test_kinds_of_the_results(self):
        kinds = {
            sums_of: (list,), days_of: (int,), tied_days: (list,), tie_between: (int, type(None)),
            forced_total: (int,), conflict_of: (tuple, type(None)), shows_conflict: (bool,), is_way: (bool,),
            least_way: (list,), greatest_way: (list,), all_ranges: (list,), certain_days: (list,),
            least_peak: (int,), peak_paper: (tuple,), greatest_floor: (int,), least_spread: (int,),
            way_within: (list, type(None)), count_ways: (int,), nth_way: (list,), way_index: (int,),
            count_with: (int,), joined_days: (list,), have_common: (bool,), joint_sums: (list,),
            shows_disagreement: (bool,), ring_sums: (list,), ring_line: (list,), shows_open: (bool,),
            ring_ways: (int,), ring_least: (list, type(None)), fit_range: (tuple, type(None)), corrections: (list,),
            least_correction: (tuple, type(None)),
        }
        kinds.update({
            rough_conflict: (list, type(None)), shows_rough: (bool,), is_rough_way: (bool,),
            rough_way: (list, type(None)), write_sums: (str,), write_way: (str,), write_bounds: (str,),
            read_sums: (list,), read_way: (list,), read_bounds: (list,), session: (str,),
        })
        pairs = (day_range, row_range, total_range, difference_range, next_range, rough_range)
        for call, values in valid_calls():
            try:
                told = call(**values)
            except errors.SumError:
                continue
            if call in pairs:
                self.assertEqual([type(told)] + [type(number) for number in told], [tuple, int, int], call.__name__)
            else:
                self.assertIn(type(told), kinds[call], call.__name__)

    def test_kinds_of_what_is_inside(self):
        told = ([4, 5, 5, 6], 2, 3)
        for row in all_ranges(*told) + certain_days(*told):
            self.assertEqual([type(row)] + [type(number) for number in row], [tuple, int, int])
        for days in joined_days(7, 4, 6):
            self.assertEqual([type(days)] + [type(day) for day in days], [list] + [int] * len(days))
        for row in (nth_way(*told, 0), way_within(*told, 0, 9), peak_paper(*told)[1]):
            self.assertEqual({type(number) for number in row}, {int})
        self.assertEqual([type(part) for part in peak_paper(*told)], [str, list])

    def test_results_may_be_passed_back(self):
        wide = sums_of([TOP] * 67, 8)
        self.assertEqual(wide, [8 * TOP] * 60)
        self.assertEqual(least_way(wide, 8, TOP), [TOP] * 67)
        self.assertEqual(sums_of(least_way(LONG_SUMS, 7, TOP), 7), LONG_SUMS)
        self.assertTrue(shows_conflict(APART, 2, 9, conflict_of(APART, 2, 9)))
        told = (LONG_SUMS, 7, TOP)
        last = count_ways(*told) - 1
        self.assertGreater(last, 10 ** 100)
        self.assertEqual(nth_way(*told, way_index(*told, nth_way(*told, last))), greatest_way(*told))
        low, high = next_range(LONG_SUMS[:-1], 7, TOP)
        for number in (low, high):
            self.assertIsNone(conflict_of(LONG_SUMS[:-1] + [number], 7, TOP))
        for number in day_range(*told, 66):
            self.assertGreater(count_with(*told, 66, number), 0)
        self.assertTrue(shows_conflict(LONG_SUMS, 7, least_peak(*told) - 1, peak_paper(*told)))
        self.assertEqual(count_with(*told, 66, last), 0)
        self.assertEqual(read_way(write_way(greatest_way(*told))), greatest_way(*told))
        walk = rough_conflict([(told, told) for told in APART], 2, 9)
        self.assertIs(shows_rough([(told, told) for told in APART], 2, 9, walk), True)
        self.assertEqual(joint_sums(LONG_SUMS, 7, sums_of(LONG, 8), 8), LONG)
        self.assertEqual(ring_line(ring_sums(LONG[:60], 8), 8), sums_of(LONG[:60], 4))
        for index, least, greatest in corrections(*told):
            for value in (least, greatest):
                self.assertIsNone(conflict_of(LONG_SUMS[:index] + [value] + LONG_SUMS[index + 1:], 7, TOP))


class Impossibles(unittest.TestCase):
    def test_the_list_that_is_kept_is_a_new_one_each_time(self):
        for call in (least_way, greatest_way):
            told = conflict_of(APART, 2, 9)
            kept = []
            for _ in range(2):
                with self.assertRaises(errors.Impossible) as caught:
                    call(APART, 2, 9)
                kept.append(caught.exception.days)
            self.assertEqual(kept, [told[1], told[1]])
            self.assertIsNot(kept[0], kept[1])
            kept[0].append(7)
            self.assertEqual(kept[1], [1, 3])
            self.assertEqual(conflict_of(APART, 2, 9), ("apart", [1, 3]))

    def test_no_error_changes_when_a_passed_list_is_changed_later(self):
        sums = list(APART)
        with self.assertRaises(errors.Impossible) as caught:
            least_way(sums, 2, 9)
        sums[:] = [0]
        self.assertEqual((caught.exception.word, caught.exception.days), ("apart", [1, 3]))


if __name__ == "__main__":
    unittest.main()
