import unittest
from math import gcd

import plainly
from checking import Arguments
from weeksums import errors
from weeksums.pairs import have_common, joined_days, joint_sums, shows_disagreement
from weeksums.ties import sums_of

TOP = plainly.TOP
LENGTHS = range(1, 9)
PAIRS = [(length, other_length) for length in LENGTHS for other_length in LENGTHS]


def needed(length, other_length):
    return length + other_length - gcd(length, other_length)


def counts_for(length, other_length, many=67):
    """Numbers of days: the least ones, those next to the ones that are needed, and greater ones."""
    low = max(length, other_length)
    near = range(needed(length, other_length) - 3, needed(length, other_length) + 4)
    counts = {low, low + 1, *near, 20, 41, 66, 67}
    return sorted(count for count in counts if low <= count <= many)


def sets_by_steps(count, length, other_length):
    """The joined days by steps alone: each day takes on the least mark that a step brings to it."""
    marks = list(range(count))
    changed = True
    while changed:
        changed = False
        for day in range(count):
            for step in (length, other_length):
                if day + step < count and marks[day] != marks[day + step]:
                    marks[day] = marks[day + step] = min(marks[day], marks[day + step])
                    changed = True
    return [[day for day in range(count) if marks[day] == mark] for mark in sorted(set(marks))]


def drawn(count, seed):
    """Lists of integers: small ones, ones below 0, ones of 30 digits."""
    numbers = plainly.numbers_of_many_digits(count, 9, seed)
    yield numbers
    yield [-number for number in numbers]
    yield [number - TOP // 2 for number in plainly.numbers_of_many_digits(count, TOP, seed + 1)]


def rise(sums, length, other, other_length, first, second):
    """By how much the second day is greater, as R1 tells it; None for days that are no length apart."""
    for told, step in ((sums, length), (other, other_length)):
        if second - first == step:
            return told[first + 1] - told[first]
        if first - second == step:
            return told[second] - told[second + 1]
    return None


def is_ring(sums, length, other, other_length, days):
    """Whether a list of integers is a closed list of days that do not add up to 0."""
    count = len(sums) + length - 1
    if length == other_length or not days or days[0] != days[-1]:
        return False
    if any(day < 0 or day >= count for day in days):
        return False
    steps = [rise(sums, length, other, other_length, *pair) for pair in zip(days, days[1:])]
    return None not in steps and sum(steps) != 0


def has_ring(sums, length, other, other_length):
    """Whether there is such a list: numbers are laid along the steps until two steps do not agree."""
    count = len(sums) + length - 1
    if length == other_length:
        return False
    numbers = {}
    for start in range(count):
        numbers.setdefault(start, 0)
        changed = True
        while changed:
            changed = False
            for first in list(numbers):
                for second in (first - length, first - other_length, first + length, first + other_length):
                    if 0 <= second < count and second not in numbers:
                        numbers[second] = numbers[first] + rise(sums, length, other, other_length, first, second)
                        changed = True
    return any(numbers[day + step] - numbers[day] != rise(sums, length, other, other_length, day, day + step)
               for step in (length, other_length) for day in range(count - step))


def have_some(sums, length, other, other_length):
    count = len(sums) + length - 1
    rows = plainly.matrix_of(count, length) + plainly.matrix_of(count, other_length)
    return plainly.has_integers(rows, sums + other)


def both_sums(numbers, length, other_length):
    return [plainly.sums_by_hand(numbers, length), length, plainly.sums_by_hand(numbers, other_length), other_length]


def changed_pairs(numbers, length, other_length):
    """Both sums of a list, with one sum changed, several, or all of one length alike."""
    told = both_sums(numbers, length, other_length)
    yield told
    for at in (0, 2):
        many = len(told[at])
        for by in (1, -2, 6, TOP):
            for index in {0, 1, many // 2, many - 1} & set(range(many)):
                row = list(told[at])
                row[index] += by
                yield told[:at] + [row] + told[at + 1:]
            yield told[:at] + [[number + by for number in told[at]]] + told[at + 1:]
            yield told[:at] + [[number + by * (index > many // 2) for index, number in enumerate(told[at])]] + told[at + 1:]
    yield [[number + length for number in told[0]], length, [number + other_length for number in told[2]], other_length]


class Ordinary(unittest.TestCase):
    def test_joined_days(self):
        self.assertEqual(joined_days(5, 2, 3), [[0, 1, 2, 3, 4]])
        self.assertEqual(joined_days(3, 2, 3), [[0, 2], [1]])
        self.assertEqual(joined_days(7, 4, 6), [[0, 2, 4, 6], [1, 5], [3]])
        self.assertEqual(joined_days(8, 4, 6), [[0, 2, 4, 6], [1, 3, 5, 7]])
        self.assertEqual(joined_days(5, 2, 2), [[0, 2, 4], [1, 3]])
        self.assertEqual(joined_days(1, 1, 1), [[0]])
        self.assertEqual(joined_days(8, 8, 8), [[day] for day in range(8)])
        self.assertEqual(joined_days(8, 8, 1), [list(range(8))])

    def test_have_common_and_joint_sums(self):
        numbers = [3, 1, 4, 1, 5]
        told = (sums_of(numbers, 2), 2, sums_of(numbers, 3), 3)
        self.assertIs(have_common(*told), True)
        self.assertEqual(joint_sums(*told), numbers)
        numbers = [3, 1, 4, 1, 5, 9, 2, 6]
        told = (sums_of(numbers, 4), 4, sums_of(numbers, 6), 6)
        self.assertEqual(joint_sums(*told), sums_of(numbers, 2))
        self.assertEqual(joint_sums([4, 5], 2, [4, 5], 2), [4, 5])

    def test_a_ring(self):
        told = ([4, 5, 5, 6], 2, [8, 6, 11], 3)
        self.assertIs(have_common(*told), False)
        with self.assertRaises(errors.Disagree) as caught:
            joint_sums(*told)
        self.assertEqual(caught.exception.word, "ring")
        self.assertTrue(is_ring(*told, caught.exception.days))
        self.assertIs(shows_disagreement(*told, ("ring", [0, 2, 4, 1, 3, 0])), True)
        self.assertIs(shows_disagreement(*told, ("ring", [0, 3, 1, 4, 2, 0])), True)
        self.assertIs(shows_disagreement(*told, ("ring", [4, 1, 3, 0, 2, 4])), True)
        self.assertIs(shows_disagreement(*told, ("ring", [0, 2, 4, 2, 0])), False)
        self.assertIs(shows_disagreement(*told, ("parts", [])), False)

    def test_parts(self):
        # All sums of length 3 one greater: the differences stay.
        told = ([4, 5, 5, 6], 2, [9, 7, 11], 3)
        self.assertIs(have_common(*told), False)
        with self.assertRaises(errors.Disagree) as caught:
            joint_sums(*told)
        self.assertEqual((caught.exception.word, caught.exception.days), ("parts", []))
        self.assertIs(shows_disagreement(*told, ("parts", [])), True)
        self.assertIs(shows_disagreement(*told, ("ring", [0, 2, 4, 1, 3, 0])), False)

    def test_a_total_that_the_parts_cannot_have(self):
        # The first two days have 2 and the others 3, so that all four have 5.
        self.assertIs(have_common([5], 4, [2, 2, 3], 2), True)
        told = ([6], 4, [2, 2, 3], 2)
        self.assertIs(have_common(*told), False)
        self.assertIs(shows_disagreement(*told, ("parts", [])), True)
        # Each two days would have a half, or a third.
        told = ([1, 1, 1, 1, 1], 4, [1, 1, 1], 6)
        self.assertIs(have_common(*told), False)
        self.assertIs(shows_disagreement(*told, ("parts", [])), True)
        told = ([2, 2, 2, 2, 2], 4, [3, 3, 3], 6)
        self.assertEqual(joint_sums(*told), [1] * 7)

    def test_lengths_that_are_alike(self):
        for length in LENGTHS:
            self.assertEqual(joint_sums([7, 8, 8], length, [7, 8, 8], length), [7, 8, 8])
            for other in ([7, 8, 9], [8, 9, 9], [7, 7, 8]):
                told = ([7, 8, 8], length, other, length)
                self.assertIs(have_common(*told), False)
                with self.assertRaises(errors.Disagree) as caught:
                    joint_sums(*told)
                self.assertEqual((caught.exception.word, caught.exception.days), ("parts", []))
                self.assertIs(shows_disagreement(*told, ("parts", [])), True)
                # The two differences of the days 0 and length do not agree, but this is no ring.
                for days in ([0, length, 0], [1, 1 + length, 1], [0]):
                    self.assertIs(shows_disagreement(*told, ("ring", days)), False)

    def test_too_short(self):
        for told in (([9], 3, [1, 2], 2), ([5, 8, 1], 4, [7], 6), ([1], 8, [2, 3], 7)):
            length, other_length = told[1], told[3]
            self.assertIs(have_common(*told), True)
            with self.assertRaises(errors.TooShort) as caught:
                joint_sums(*told)
            self.assertEqual(caught.exception.days, needed(length, other_length))
            self.assertIs(shows_disagreement(*told, ("parts", [])), False)


class Joined(unittest.TestCase):
    def test_by_going_through_the_steps(self):
        for length, other_length in PAIRS:
            for count in range(max(length, other_length), 68):
                told = joined_days(count, length, other_length)
                self.assertEqual(told, sets_by_steps(count, length, other_length), (count, length, other_length))

    def test_as_many_sets_as_the_greatest_common_divisor(self):
        for length, other_length in PAIRS:
            part = gcd(length, other_length)
            for count in range(max(length, other_length), 68):
                told = joined_days(count, length, other_length)
                if count >= needed(length, other_length):
                    self.assertEqual(told, [list(range(start, count, part)) for start in range(part)])
                else:
                    self.assertEqual(len(told), length + other_length - count)


class Drawn(unittest.TestCase):
    def test_joint_sums_of_one_list(self):
        for length, other_length in PAIRS:
            part = gcd(length, other_length)
            for count in counts_for(length, other_length):
                for numbers in drawn(count, length + 9 * other_length + 99 * count):
                    told = both_sums(numbers, length, other_length)
                    self.assertIs(have_common(*told), True)
                    self.assertIs(shows_disagreement(*told, ("parts", [])), False)
                    if count >= needed(length, other_length):
                        self.assertEqual(joint_sums(*told), plainly.sums_by_hand(numbers, part))
                    else:
                        with self.assertRaises(errors.TooShort) as caught:
                            joint_sums(*told)
                        self.assertEqual(caught.exception.days, needed(length, other_length))

    def check_changed(self, told):
        """What is told of these sums, against the test's own judgement."""
        count = len(told[0]) + told[1] - 1
        common = have_common(*told)
        if count < needed(told[1], told[3]):
            self.assertIs(common, True)
            self.assertRaises(errors.TooShort, joint_sums, *told)
            self.assertIs(shows_disagreement(*told, ("parts", [])), False)
            return "short"
        if common:
            part = gcd(told[1], told[3])
            numbers = plainly.some_list(joint_sums(*told), part)
            self.assertEqual(len(numbers), count)
            self.assertEqual(both_sums(numbers, told[1], told[3]), told)
            self.assertIs(shows_disagreement(*told, ("parts", [])), False)
            return "common"
        with self.assertRaises(errors.Disagree) as caught:
            joint_sums(*told)
        word, days = caught.exception.word, caught.exception.days
        self.assertIs(shows_disagreement(*told, (word, days)), True)
        self.assertEqual(word, "ring" if has_ring(*told) else "parts")
        if word == "ring":
            self.assertTrue(is_ring(*told, days), (told, days))
            self.assertIs(shows_disagreement(*told, ("parts", [])), False)
        else:
            self.assertEqual(days, [])
        return word

    def test_changed_sums(self):
        found = set()
        for length, other_length in PAIRS:
            for count in counts_for(length, other_length, 20):
                numbers = plainly.numbers_of_many_digits(count, 9, 7 * length + other_length + count)
                for told in changed_pairs(numbers, length, other_length):
                    word = self.check_changed(told)
                    found.add(word)
                    self.assertIs(have_common(*told), have_some(*told), told)
        self.assertEqual(found, {"short", "common", "ring", "parts"})

    def test_changed_sums_of_67_days(self):
        found = set()
        for length, other_length in PAIRS:
            numbers = plainly.numbers_of_many_digits(67, TOP, 7 * length + other_length)
            numbers = [number - TOP // 3 for number in numbers]
            for told in changed_pairs(numbers, length, other_length):
                found.add(self.check_changed(told))
        self.assertEqual(found, {"common", "ring", "parts"})

    def test_sums_that_no_list_was_drawn_for(self):
        for length, other_length in PAIRS:
            for count in counts_for(length, other_length, 16):
                many = plainly.numbers_of_many_digits(2 * count, 4, count + length)
                told = [many[:count - length + 1], length, many[count:][:count - other_length + 1], other_length]
                self.check_changed(told)
                self.assertIs(have_common(*told), have_some(*told), told)


class Shows(unittest.TestCase):
    def rings(self):
        """Sums that disagree, with a ring that is told of them."""
        for length, other_length in ((1, 2), (2, 1), (2, 3), (3, 2), (4, 6), (6, 4), (8, 7), (5, 8), (2, 4), (8, 1)):
            for count in (needed(length, other_length) + 1, 67):
                numbers = plainly.numbers_of_many_digits(count, 9, count)
                for at in (0, 2):
                    told = both_sums(numbers, length, other_length)
                    told[at][len(told[at]) // 2] += 5
                    with self.assertRaises(errors.Disagree) as caught:
                        joint_sums(*told)
                    if caught.exception.word == "ring":
                        yield told, count, caught.exception.days

    def test_the_ring_in_other_forms(self):
        answers = set()
        for told, count, days in self.rings():
            self.assertIs(shows_disagreement(*told, ("ring", days)), True)
            self.assertIs(shows_disagreement(*told, ("ring", days[::-1])), True)
            for other in plainly.variants_of(days, count):
                answer = shows_disagreement(*told, ("ring", other))
                self.assertIs(answer, is_ring(*told, other), (told, other))
                answers.add(answer)
        self.assertEqual(answers, {True, False})

    def test_closed_lists_that_add_up_to_0(self):
        for told, count, days in self.rings():
            step = told[1]
            for other in ([0], [count - 1], [0, step, 0], [step, 0, step], days + days[-2::-1]):
                self.assertIs(shows_disagreement(*told, ("ring", other)), False)

    def test_a_long_list(self):
        for told, _, days in self.rings():
            times = 3990 // len(days)
            self.assertIs(shows_disagreement(*told, ("ring", days[:-1] * times + days[:1])), True)
            self.assertIs(shows_disagreement(*told, ("ring", days[:-1] * times)), False)

    def test_any_objects(self):
        for told, _, days in self.rings():
            for thing in plainly.any_objects(days):
                self.assertIs(shows_disagreement(*told, thing), False, thing)
        parts = ([4, 5, 5, 6], 2, [9, 7, 11], 3)
        self.assertIs(shows_disagreement(*parts, ("parts", [])), True)
        for thing in plainly.any_objects([0, 2, 4, 1, 3, 0]):
            self.assertIs(shows_disagreement(*parts, thing), False, thing)

    def test_any_objects_where_both_sums_agree_or_are_short(self):
        for numbers, length, other_length in (([3, 1, 4, 1, 5], 2, 3), ([3, 1, 4], 2, 3), ([3, 1, 4], 2, 2)):
            told = both_sums(numbers, length, other_length)
            for days in ([0, 2, 4, 1, 3, 0], [0, 2, 0], [0], []):
                for thing in list(plainly.any_objects(days)) + [("ring", days), ("parts", days), ("parts", [])]:
                    self.assertIs(shows_disagreement(*told, thing), False, thing)


class Wrong(Arguments):
    def test_67_days_and_one_more(self):
        for length, other_length in PAIRS:
            told = ([0] * (68 - length), length, [0] * (68 - other_length), other_length)
            self.assertIs(have_common(*told), True)
            self.assertEqual(joint_sums(*told), [0] * (68 - gcd(length, other_length)))
            for at, name in ((0, length), (2, other_length)):
                odd = list(told)
                odd[at] = odd[at] + [0]
                kind = errors.InvalidSums if name == 1 else errors.InvalidLength
                for call in (have_common, joint_sums):
                    self.check_error(kind, call, odd)
                self.check_error(kind, shows_disagreement, odd + [None])

    def test_counts_and_lengths_of_joined_days(self):
        for length, other_length in PAIRS:
            greater = max(length, other_length)
            for count in range(1, greater):
                self.check_error(errors.InvalidNumber, joined_days, (count, length, other_length))
            self.assertEqual(len(joined_days(greater, length, other_length)), min(length, other_length))
            for count in (0, -1, 68, 69, TOP, -TOP):
                self.check_error(errors.InvalidNumber, joined_days, (count, length, other_length))
        for odd in (0, -1, 9, TOP):
            for count in (1, 5, 67):
                self.check_error(errors.InvalidLength, joined_days, (count, odd, 1))
                self.check_error(errors.InvalidLength, joined_days, (count, 1, odd))
                self.check_error(errors.InvalidLength, joined_days, (count, 8, odd))
        self.check_error(errors.InvalidNumber, joined_days, (0, 9, 9))
        self.check_error(errors.InvalidLength, joined_days, (1, 9, 8))
        self.check_error(errors.InvalidLength, joined_days, (1, 8, 9))

    def test_unlike_numbers_of_days(self):
        # Ahead of too few days and of sums that disagree, behind all that is not valid by itself.
        for told in (([4, 5, 5, 6], 2, [8, 6], 3), ([4], 2, [8], 3), ([4, 5], 2, [4], 2), ([1, 9], 1, [5, 5, 5], 2),
                     ([1], 8, [1], 7), ([0] * 67, 1, [0] * 66, 1), ([0] * 66, 2, [0] * 60, 7)):
            for call, thing in ((have_common, ()), (joint_sums, ()), (shows_disagreement, (("parts", []),))):
                self.check_error(errors.InvalidSums, call, (*told, *thing))
                self.check_error(errors.InvalidLength, call, (*told[:3], 9, *thing))
                self.check_error(errors.InvalidLength, call, (told[0], 0, *told[2:], *thing))

    def test_the_sequence_of_the_errors(self):
        # Unlike numbers of days, then too few days, then sums that disagree.
        self.check_error(errors.InvalidSums, joint_sums, ([7, 8], 4, [9], 6))
        self.check_error(errors.TooShort, joint_sums, ([7, 8, 9], 4, [9], 6))
        self.check_error(errors.Disagree, joint_sums, ([7, 8, 9, 9, 9], 4, [9, 1, 1], 6))

    def test_the_lists_of_errors_are_new(self):
        for told in (([4, 5, 5, 6], 2, [8, 6, 11], 3), ([4, 5, 5, 6], 2, [9, 7, 11], 3)):
            kept = []
            for _ in range(2):
                kept.append(self.check_error(errors.Disagree, joint_sums, told))
            self.assertEqual((kept[0].word, kept[0].days), (kept[1].word, kept[1].days))
            self.assertIsNot(kept[0].days, kept[1].days)
            text = repr(kept[1].days)
            kept[0].days.append(99)
            self.assertEqual(repr(kept[1].days), text)


if __name__ == "__main__":
    unittest.main()
