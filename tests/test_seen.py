"""[11], [16]: brackets told of reaches alone."""

import unittest

from regroups.seen import all_have, greatest_seen, have_all, least_seen, places_with, some_have
from tests.samples import (
    all_groupings, as_lists, brackets_of, large_groupings, led_to, listed_between, pairs_in_order, reaches_of,
)


def every_bracket(factors):
    return [(first, last) for first in range(1, factors) for last in range(first + 1, factors + 1)]


def some_sights(factors):
    """Brackets of which no two cross: all those of groupings, and every second and every third one of them."""
    rows = [sorted(brackets_of(grouping)) for grouping in all_groupings(1, factors)]
    return sorted({tuple(row[at::leap]) for row in rows for leap in (1, 2, 3) for at in range(leap)})


class EndsTest(unittest.TestCase):
    def test_both_ends_tell_what_all_and_what_some_have(self):
        for factors in range(2, 6):
            for low, high in pairs_in_order(factors):
                here = [brackets_of(grouping) for grouping in listed_between(low, high)]
                for first, last in every_bracket(factors):
                    has = [(first, last) in own for own in here]
                    self.assertIs(all_have(reaches_of(low), reaches_of(high), first, last), all(has))
                    self.assertIs(some_have(reaches_of(low), reaches_of(high), first, last), any(has))

    def test_those_that_have_all(self):
        for factors in range(1, 6):
            every = all_groupings(1, factors)
            for sight in some_sights(factors):
                has = [set(sight) <= brackets_of(grouping) for grouping in every]
                self.assertEqual([have_all(reaches_of(grouping), sight) for grouping in every], has)
                self.assertEqual(places_with([reaches_of(grouping) for grouping in every], sight),
                                 [at for at, own in enumerate(has) if own])

    def test_large_ones(self):
        for grouping in large_groupings()[::5]:
            rows, own = reaches_of(grouping), brackets_of(grouping)
            for first, last in every_bracket(len(rows) + 1):
                self.assertIs(all_have(rows, rows, first, last), (first, last) in own)
            self.assertIs(have_all(rows, tuple(own)), True)


class WalksTest(unittest.TestCase):
    def test_one_sight_from_each(self):
        for factors in range(1, 6):
            for sight in some_sights(factors):
                fits = [grouping for grouping in all_groupings(1, factors) if set(sight) <= brackets_of(grouping)]
                for grouping in all_groupings(1, factors):
                    rows = list(reaches_of(grouping))
                    behind = [own for own in fits if own in led_to(grouping)]
                    least = [own for own in behind if all(other in led_to(own) for other in behind)]
                    self.assertEqual(least_seen(rows, (sight,)), [list(reaches_of(own)) for own in least])
                    ahead = [own for own in fits if grouping in led_to(own)]
                    greatest = [own for own in ahead if all(own in led_to(other) for other in ahead)]
                    if ahead:
                        self.assertEqual(greatest_seen(rows, (sight,)), [list(reaches_of(own)) for own in greatest])
                    # What was handed in is still as it was.
                    self.assertEqual(rows, list(reaches_of(grouping)))

    def test_up_to_the_first_sight_without_any(self):
        log = ((), ((2, 3),), ((2, 4),), ((1, 2),), ())
        for handed in (log, as_lists(log)):
            self.assertEqual(least_seen((2, 3, 4), handed), [[2, 3, 4], [3, 3, 4], [4, 3, 4]])
            self.assertEqual(least_seen((4, 4, 4), handed), [[4, 4, 4]])
            self.assertEqual(greatest_seen((4, 4, 4), handed[:3]), [[4, 3, 4], [4, 3, 4], [4, 4, 4]])
        self.assertEqual((least_seen((), ((), ())), greatest_seen((), ((), ()))), ([[], []], [[], []]))
        self.assertEqual((least_seen((2,), ()), greatest_seen((2,), ())), ([], []))


if __name__ == "__main__":
    unittest.main()
