"""[5], [7], [12]: steps told by reaches alone."""

import unittest

from regroups.rows import open_rises, pairs_of_rows, rises_each, risen, steps_between, sum_of_rises
from tests.samples import (
    large_groupings, large_pairs, listed_between, pairs_in_order, pairs_of, reaches_of, routes_between,
    small_groupings, steps_of,
)


class RowsTest(unittest.TestCase):
    def test_steps(self):
        for grouping in small_groupings(6) + large_groupings():
            rows = reaches_of(grouping)
            found = [(join, risen(rows, join, reach)) for join, reach in open_rises(rows)]
            wanted = [(join, reaches_of(row[0])) for join, row in sorted(steps_of(grouping).items())]
            self.assertEqual(found, wanted)

    def test_pairs(self):
        for grouping in small_groupings(6) + large_groupings():
            wanted = [(start, join, reach) for join, start, reach in pairs_of(grouping)]
            self.assertEqual(pairs_of_rows(reaches_of(grouping)), wanted)

    def test_steps_between(self):
        for factors in range(1, 6):
            for one, other in pairs_in_order(factors):
                every = listed_between(one, other)
                found = steps_between(reaches_of(one), reaches_of(other))
                self.assertEqual(list(found), [reaches_of(grouping) for grouping in every])
                for grouping in every:
                    wanted = [(join, reaches_of(row[0])) for join, row in sorted(steps_of(grouping).items())
                              if row[0] in every]
                    self.assertEqual(found[reaches_of(grouping)], wanted)

    def test_rises(self):
        for factors in range(1, 6):
            for one, other in pairs_in_order(factors):
                lengths = [len(row) - 1 for row in routes_between(one, other)]
                near, far = reaches_of(one), reaches_of(other)
                self.assertEqual(sum_of_rises(far, near, far), min(lengths))
                self.assertEqual(sum_of_rises(near, near, far), max(lengths))

    def test_no_rises_are_left_at_the_end(self):
        for one, other in large_pairs():
            near, far = reaches_of(one), reaches_of(other)
            for rows in (near, far):
                self.assertEqual(rises_each(rows, far, far), (0,) * len(far))
                self.assertEqual([count > 0 for count in rises_each(rows, near, far)],
                                 [low < high for low, high in zip(near, far)])


if __name__ == "__main__":
    unittest.main()
