"""[8], [16]: counts between two bounds."""

import unittest

from regroups.counts import how_many
from regroups.ways import many_within, ways_within
from tests.samples import large_pairs, listed_between, pairs_in_order, reaches_of


class WaysTest(unittest.TestCase):
    def test_many_within(self):
        for factors in range(1, 6):
            for low, high in pairs_in_order(factors):
                self.assertEqual(many_within(reaches_of(low), reaches_of(high)), len(listed_between(low, high)))

    def test_as_the_table_tells(self):
        for low, high in large_pairs():
            lows, highs = list(reaches_of(low)), list(reaches_of(high))
            self.assertEqual(many_within(lows, highs), ways_within(lows, highs)[1][len(lows) + 1])

    def test_all_there_are(self):
        for factors in range(1, 61):
            self.assertEqual(many_within(range(2, factors + 1), [factors] * (factors - 1)), how_many(factors))


if __name__ == "__main__":
    unittest.main()
