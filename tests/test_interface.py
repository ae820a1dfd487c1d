"""[21]: the names of the interface, their parameters, and the files in which they are defined."""

import importlib
import inspect
import unittest

from regroups.errors import NoJoin
from regroups.groupings import factors_in

INTERFACE = {
    "groupings": (
        "is_grouping(thing)", "factors_in(grouping)", "reaches(grouping)", "starts(grouping)", "is_reaches(thing)",
        "is_starts(thing)", "of_reaches(rows)", "of_starts(rows)", "brackets(grouping)", "from_left(factors)",
        "from_right(factors)", "mirrored(grouping)",
    ),
    "steps": (
        "open_joins(grouping)", "step_at(grouping, join)", "nexts(grouping)", "back_joins(grouping)",
        "step_back(grouping, join)", "aheads(grouping)", "step_brackets(grouping, join)", "by_steps(grouping, joins)",
    ),
}


class InterfaceTest(unittest.TestCase):
    def test_functions_stand_in_their_files_with_their_parameters(self):
        for file_name, headings in INTERFACE.items():
            module = importlib.import_module(f"regroups.{file_name}")
            for heading in headings:
                name = heading[:heading.index("(")]
                function = getattr(module, name)
                self.assertTrue(inspect.isfunction(function), heading)
                self.assertEqual(function.__module__, f"regroups.{file_name}")
                self.assertEqual(name + str(inspect.signature(function)), heading)

    def test_bounds_are_no_walls(self):
        deep = (1, 2)
        for factor in range(3, 101):
            deep = (deep, factor)
        self.assertEqual(factors_in(deep), 100)
        steps = importlib.import_module("regroups.steps")
        self.assertEqual(steps.open_joins(deep), tuple(range(1, 99)))
        with self.assertRaises(NoJoin):
            steps.step_at(deep, 100)


if __name__ == "__main__":
    unittest.main()
