import copy
import pickle
import unittest

from weeksums import errors

WITH_ONE_STRING = (
    "InvalidSums", "InvalidBounds", "InvalidNumbers", "InvalidLength", "InvalidMost", "InvalidDay",
    "InvalidDays", "InvalidWay", "InvalidIndex", "InvalidNumber", "NothingToUndo",
)
FIELDS = {
    "Impossible": ("word", "days"),
    "Disagree": ("word", "days"),
    "TooShort": ("days",),
    "InvalidText": ("place",),
}
NAMES = WITH_ONE_STRING + tuple(FIELDS)
VALUES = {"word": "high", "days": [3, 8], "place": 4}


def made(name):
    """An error of the class with this name."""
    if name in WITH_ONE_STRING:
        return getattr(errors, name)("a word")
    return getattr(errors, name)(*[VALUES[field] for field in FIELDS[name]])


class Classes(unittest.TestCase):
    def test_sum_error_is_a_direct_subclass_of_value_error(self):
        self.assertEqual(errors.SumError.__bases__, (ValueError,))
        self.assertIsInstance(errors.SumError("a word"), ValueError)

    def test_the_others_are_its_direct_subclasses(self):
        for name in NAMES:
            self.assertEqual(getattr(errors, name).__bases__, (errors.SumError,), name)

    def test_there_are_no_others(self):
        found = [name for name, thing in vars(errors).items() if isinstance(thing, type)]
        self.assertEqual(sorted(found), sorted(NAMES + ("SumError",)))

    def test_each_object_is_of_its_own_class_alone(self):
        for name in NAMES:
            error = made(name)
            self.assertIsInstance(error, errors.SumError)
            for other in NAMES:
                self.assertEqual(isinstance(error, getattr(errors, other)), name == other, (name, other))

    def test_each_is_raised_and_caught(self):
        for name in NAMES:
            for caught in (getattr(errors, name), errors.SumError, ValueError):
                with self.assertRaises(caught):
                    raise made(name)

    def test_those_with_one_string_tell_it(self):
        for name in WITH_ONE_STRING + ("SumError",):
            for text in ("a word", "", "two\nrows"):
                self.assertEqual(str(getattr(errors, name)(text)), text, name)


class Fields(unittest.TestCase):
    def test_arguments_by_position(self):
        for name, fields in FIELDS.items():
            error = made(name)
            for field in fields:
                self.assertEqual(getattr(error, field), VALUES[field], (name, field))

    def test_arguments_by_name(self):
        for name, fields in FIELDS.items():
            error = getattr(errors, name)(**{field: VALUES[field] for field in reversed(fields)})
            for field in fields:
                self.assertEqual(getattr(error, field), VALUES[field], (name, field))

    def test_first_by_position_second_by_name(self):
        for kind in (errors.Impossible, errors.Disagree):
            error = kind("low", days=[1])
            self.assertEqual((error.word, error.days), ("low", [1]))

    def test_too_few_and_too_many_arguments(self):
        for name, fields in FIELDS.items():
            for many in (len(fields) - 1, len(fields) + 1):
                with self.assertRaises(TypeError):
                    getattr(errors, name)(*["a"] * many)

    def test_a_list_is_copied(self):
        for kind in (errors.Impossible, errors.Disagree):
            days = [1, 2, 3]
            error = kind("low", days)
            text = (str(error), repr(error))
            self.assertIsNot(error.days, days)
            days.append(4)
            days[0] = 9
            self.assertEqual(error.days, [1, 2, 3])
            self.assertEqual((str(error), repr(error)), text)

    def test_an_empty_list_is_copied(self):
        days = []
        error = errors.Disagree("parts", days)
        days.append(1)
        self.assertEqual(error.days, [])

    def test_too_short_copies_a_list(self):
        days = [1]
        error = errors.TooShort(days)
        text = (str(error), repr(error))
        days.append(2)
        self.assertEqual(error.days, [1])
        self.assertEqual((str(error), repr(error)), text)

    def test_lists_inside_are_copied(self):
        inner = [1, [2]]
        for days in ([inner], (inner,), {"a": inner}, [({"a": [inner]},)]):
            error = errors.Impossible("walk", days)
            text = repr(days)
            inner[1].append(3)
            self.assertEqual(repr(error.days), text)
            self.assertNotEqual(repr(days), text)
            inner[1].pop()

    def test_the_passed_list_is_not_changed(self):
        days = [2, [1, {"a": (3, [4])}]]
        for kind in (errors.Impossible, errors.Disagree):
            error = kind("low", days)
            error.days[1][1]["a"][1].append(5)
            error.days.append(6)
            self.assertEqual(days, [2, [1, {"a": (3, [4])}]])

    def test_two_errors_share_no_list(self):
        days = [1, 2]
        first = errors.Impossible("low", days)
        second = errors.Impossible("low", days)
        first.days.append(3)
        self.assertEqual(second.days, [1, 2])

    def test_any_object_as_days(self):
        inner = errors.InvalidDay("none")
        deep = [7]
        for _ in range(19):
            deep = [deep]
        for days in (None, 0, -(10 ** 300), True, "text", "", (), (1, [2]), {}, {"a": [1]}, inner, [inner], deep,
                     list(range(3999))):
            for kind in (errors.Impossible, errors.Disagree):
                error = kind("word", days)
                self.assertEqual(error.days, days)
                self.assertIs(type(error.days), type(days))
            self.assertEqual(errors.TooShort(days).days, days)

    def test_any_string_as_word(self):
        for word in ("", "apart", "a b\nc", "x" * 8000, "{}"):
            self.assertEqual(errors.Impossible(word, []).word, word)
            self.assertEqual(errors.Disagree(word, []).word, word)

    def test_any_integer_as_place_or_days(self):
        for number in (0, -1, 10 ** 30, -(10 ** 30)):
            self.assertEqual(errors.InvalidText(number).place, number)
            self.assertEqual(errors.TooShort(number).days, number)

    def test_python_copies_keep_the_fields(self):
        for name, fields in FIELDS.items():
            error = made(name)
            for twin in (copy.copy(error), copy.deepcopy(error), pickle.loads(pickle.dumps(error))):
                self.assertIs(type(twin), type(error))
                for field in fields:
                    self.assertEqual(getattr(twin, field), VALUES[field], (name, field))


if __name__ == "__main__":
    unittest.main()
