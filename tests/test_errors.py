"""The errors and their fields."""

import unittest

from wrongclock import errors

PLAIN = ("BadHour", "BadStory", "BadReadings", "BadNumber", "NoKeeper", "BadStep", "BadSigns")
WITH_FIELD = (
    ("BadAlmanac", "part"), ("BadTable", "index"), ("TooMany", "most"), ("BadText", "line"), ("BadBook", "index"),
)


class Errors(unittest.TestCase):
    def test_base_class(self):
        self.assertEqual(errors.ClockworkError.__bases__, (ValueError,))

    def test_direct_subclasses(self):
        names = PLAIN + tuple(name for name, _ in WITH_FIELD)
        for name in names:
            self.assertEqual(getattr(errors, name).__bases__, (errors.ClockworkError,), name)
        self.assertEqual({kind.__name__ for kind in errors.ClockworkError.__subclasses__()}, set(names))

    def test_fields(self):
        for name, field in WITH_FIELD:
            for worth in ("hours", 7, None):
                self.assertEqual(vars(getattr(errors, name)(worth)), {field: worth})

    def test_without_fields(self):
        for name in PLAIN:
            self.assertEqual(vars(getattr(errors, name)()), {})


if __name__ == "__main__":
    unittest.main()
