"""What several tests need to check the errors of calls."""

import unittest

from weeksums import errors

TOP = 10 ** 30 - 1
DEEP = [1]
for _ in range(19):
    DEEP = [DEEP]
NO_INTEGERS = (None, True, False, "", "1", [], [1], (1,), {}, {"a": 1}, DEEP, errors.InvalidDay("none"))
NAMES = [name for name in vars(errors) if isinstance(getattr(errors, name), type)]


class Arguments(unittest.TestCase):
    def check_error(self, kind, call, values, by_name=()):
        """The call raises an object of just this class among the package's; returns it."""
        name = getattr(call, "__name__", call)
        with self.assertRaises(ValueError, msg=(name, values)) as caught:
            call(*values, **dict(by_name))
        error = caught.exception
        self.assertIs(type(error), kind, (name, values, by_name))
        found = [name for name in NAMES if isinstance(error, getattr(errors, name))]
        self.assertEqual(sorted(found), sorted([kind.__name__, "SumError"]))
        return error
