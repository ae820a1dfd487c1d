"""[5], [7], [12]: steps told by reaches alone."""

import unittest

from regroups.rows import (
    moves_between, open_rises, pairs_of_rows, rises_each, risen, steps_between, sum_of_rises,
)
from tests.samples import (
    all_groupings, large_groupings, large_pairs, led_to, listed_between, pairs_in_order, pairs_of, reaches_of,
    routes_between, small_groupings, steps_of,
)


class RowsTest(unittest.TestCase):
    def test_steps(self):
        for grouping in small_groupings(6) + large_groupings():
            rows = reaches_of(grouping)
            found = [(join, risen(rows, join, reach)) for join, reach in open_rises(rows)]
            wanted = [(join, reaches_of(row[0])) for join, row in sorted(steps_of(grouping).items())]
            self.assertEqual(found, wanted)

    def test_pairs(self):
        for grouping in small_groupings(6) + large_groupings():
            wanted = [(start, join, reach) for join, start, reach in pairs_of(grouping)]
            self.assertEqual(pairs_of_rows(reaches_of(grouping)), wanted)

    def test_steps_between(self):
        for factors in range(1, 6):
            for one, other in pairs_in_order(factors):
                every = listed_between(one, other)
                found = steps_between(reaches_of(one), reaches_of(other))
                self.assertEqual(list(found), [reaches_of(grouping) for grouping in every])
                for grouping in every:
                    wanted = [(join, reaches_of(row[0])) for join, row in sorted(steps_of(grouping).items())
                              if row[0] in every]
                    self.assertEqual(found[reaches_of(grouping)], wanted)

    def test_moves_between(self):
        for factors in range(1, 6):
            for one, other in pairs_in_order(factors):
                groupings = listed_between(one, other)
                every, moves = moves_between(list(reaches_of(one)), reaches_of(other))
                self.assertEqual(sorted(every), [reaches_of(grouping) for grouping in groupings])
                self.assertEqual(len(moves), factors - 1)
                found = [(join, every[ahead], every[behind]) for join, row in enumerate(moves, start=1)
                         for ahead, behind in row]
                wanted = [(join, reaches_of(grouping), reaches_of(row[0])) for grouping in groupings
                          for join, row in steps_of(grouping).items() if row[0] in groupings]
                self.assertEqual(sorted(found), sorted(wanted))

    def test_moves_are_in_order(self):
        for factors in range(1, 7):
            every, moves = moves_between(range(2, factors + 1), [factors] * (factors - 1))
            for row in moves:
                self.assertTrue(all(ahead < behind for ahead, behind in row))
                for at, (ahead, behind) in enumerate(row):
                    self.assertNotIn(ahead, [other for _, other in row[at:]])

    def test_just_one_row_of_moves_by_ascending_joins(self):
        for factors in range(1, 6):
            every, moves = moves_between(range(2, factors + 1), [factors] * (factors - 1))
            for grouping in all_groupings(1, factors):
                counts = [1 if rows == reaches_of(grouping) else 0 for rows in every]
                for row in moves:
                    for ahead, behind in row:
                        counts[behind] += counts[ahead]
                behind = [reaches_of(own) for own in led_to(grouping)]
                self.assertEqual(counts, [1 if rows in behind else 0 for rows in every])

    def test_rises(self):
        for factors in range(1, 6):
            for one, other in pairs_in_order(factors):
                lengths = [len(row) - 1 for row in routes_between(one, other)]
                near, far = reaches_of(one), reaches_of(other)
                self.assertEqual(sum_of_rises(far, near, far), min(lengths))
                self.assertEqual(sum_of_rises(near, near, far), max(lengths))

    def test_no_rises_are_left_at_the_end(self):
        for one, other in large_pairs():
            near, far = reaches_of(one), reaches_of(other)
            for rows in (near, far):
                self.assertEqual(rises_each(rows, far, far), (0,) * len(far))
                self.assertEqual([count > 0 for count in rises_each(rows, near, far)],
                                 [low < high for low, high in zip(near, far)])


if __name__ == "__main__":
    unittest.main()
