"""[5], [7]: steps told by reaches alone."""

import unittest

from regroups.rows import open_rises, rises_each, risen, sum_of_rises
from tests.samples import (
    large_groupings, large_pairs, pairs_in_order, reaches_of, routes_between, small_groupings, steps_of,
)


class RowsTest(unittest.TestCase):
    def test_steps(self):
        for grouping in small_groupings(6) + large_groupings():
            rows = reaches_of(grouping)
            found = [(join, risen(rows, join, reach)) for join, reach in open_rises(rows)]
            wanted = [(join, reaches_of(row[0])) for join, row in sorted(steps_of(grouping).items())]
            self.assertEqual(found, wanted)

    def test_rises(self):
        for factors in range(1, 6):
            for one, other in pairs_in_order(factors):
                lengths = [len(row) - 1 for row in routes_between(one, other)]
                near, far = reaches_of(one), reaches_of(other)
                self.assertEqual(sum_of_rises(far, near, far), min(lengths))
                self.assertEqual(sum_of_rises(near, near, far), max(lengths))

    def test_no_rises_are_left_at_the_end(self):
        for one, other in large_pairs():
            near, far = reaches_of(one), reaches_of(other)
            for rows in (near, far):
                self.assertEqual(rises_each(rows, far, far), (0,) * len(far))
                self.assertEqual([count > 0 for count in rises_each(rows, near, far)],
                                 [low < high for low, high in zip(near, far)])


if __name__ == "__main__":
    unittest.main()
