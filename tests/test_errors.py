"""[4], [20]: the error classes."""

import unittest

from crewlists import errors
from crewlists.errors import CrewError
from crewlists.jobs import Jobs
from helpers import odd_values

FIELDS = {
    "Wrong": ["place"],
    "TooMany": ["limit"],
    "Unlike": [],
    "NoJob": ["at"],
    "NoCrew": [],
    "BadCrew": ["at"],
    "Uneven": ["at"],
    "NoExchange": ["one", "other", "person"],
    "NotPlaceable": ["group", "short"],
    "NotFilled": ["wanted", "short"],
    "NotExplained": ["answer"],
    "NotAlike": ["group"],
    "BadSighting": ["at"],
    "NoFamily": ["one", "other"],
    "NotInTeam": ["person"],
    "NoSwap": ["person", "newcomer"],
    "Nothing": [],
    "NoEntry": ["at"],
    "NoText": ["text"],
    "NoCommand": ["line"],
}


class ErrorsTest(unittest.TestCase):

    def test_each_class_stands_directly_below_the_base(self):
        self.assertEqual(CrewError.__bases__, (ValueError,))
        self.assertEqual(len(FIELDS), 20)
        for name in FIELDS:
            self.assertEqual(getattr(errors, name).__bases__, (CrewError,), name)

    def test_no_class_is_of_another(self):
        classes = [getattr(errors, name) for name in FIELDS]
        for one in classes:
            self.assertEqual([other for other in classes if issubclass(one, other)], [one])

    def test_fields_are_the_objects_themselves(self):
        values = odd_values()
        for name, fields in FIELDS.items():
            for at in range(len(values)):
                given = [values[(at + more) % len(values)] for more in range(len(fields))]
                error = getattr(errors, name)(*given)
                self.assertEqual(list(vars(error)), fields)
                for field, value in zip(fields, given):
                    self.assertIs(getattr(error, field), value, name)

    def test_fields_by_keyword(self):
        for name, fields in FIELDS.items():
            given = {field: [field] for field in fields}
            error = getattr(errors, name)(**given)
            for field in fields:
                self.assertIs(getattr(error, field), given[field])

    def test_fields_are_not_copies(self):
        rows = [1]
        error = errors.NotExplained(rows)
        rows.append(2)
        self.assertEqual(error.answer, [1, 2])

    def test_arguments_are_needed(self):
        for name, fields in FIELDS.items():
            if fields:
                with self.assertRaises(TypeError):
                    getattr(errors, name)(*fields[1:])

    def test_base_takes_any_value_and_has_no_fields(self):
        for value in odd_values():
            error = CrewError(value)
            self.assertIsInstance(error, ValueError)
            self.assertEqual(vars(error), {})

    def test_each_is_raised_and_caught_by_its_name(self):
        jobs = Jobs(1, [(0,)])
        for name, fields in FIELDS.items():
            kind = getattr(errors, name)
            for caught in (kind, CrewError, ValueError):
                with self.assertRaises(caught):
                    raise kind(*[jobs for _ in fields])


if __name__ == "__main__":
    unittest.main()
