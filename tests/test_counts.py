"""[2], [3], [9]: how many."""

import unittest
from math import comb, factorial

from regroups import counts, groupings
from regroups.counts import (
    by_longest, how_many, leading_pairs, many_ahead, many_behind, steps_in_all, with_first_reach, with_joins_from_one,
    with_last_join, with_one_bracket, with_open_joins,
)
from regroups.groupings import factors_in, from_left, from_right
from regroups.routes import fewest_steps, most_steps
from tests.examples import run_examples
from tests.samples import (
    all_groupings, as_lists, large_groupings, led_to, lists_mixed_in, pairs_in_order, pairs_of, reaches_of,
    small_groupings, starts_of, steps_of,
)

EXAMPLES = """
    >>> how_many(4), how_many(1), [with_first_reach(4, goal) for goal in range(1, 6)], [with_last_join(4, join) for join in range(5)], with_one_bracket(4, 2, 3), with_one_bracket(4, 3, 3)
    (5, 1, [0, 2, 1, 2, 0], [0, 2, 1, 2, 0], 2, 0)
    >>> [with_open_joins(4, many) for many in range(4)], [with_joins_from_one(4, many) for many in range(5)], steps_in_all(4), leading_pairs(4), by_longest(4), by_longest(1)
    ([1, 3, 1, 0], [0, 2, 2, 1, 0], 5, 13, (1, 2, 1, 1), (1,))
    >>> many_behind(((1, 2), (3, 4))), many_ahead(((1, 2), (3, 4))), many_behind(1), how_many(60) == sum([with_first_reach(60, goal) for goal in range(2, 61)])
    (2, 2, 1, True)
"""

HUGE = 10 ** 5000
FAR = (-HUGE, -61, -2, -1, 61, 62, HUGE)


class ExamplesTest(unittest.TestCase):
    def test_examples_of_chapter_8(self):
        run_examples(self, EXAMPLES, {**vars(groupings), **vars(counts)})


class ListedTest(unittest.TestCase):
    """Compares with all groupings, which are listed."""

    def test_how_many(self):
        for factors in range(1, 9):
            self.assertEqual(how_many(factors), len(all_groupings(1, factors)))

    def test_with_first_reach(self):
        for factors in range(1, 9):
            first = [reaches_of(grouping)[:1] for grouping in all_groupings(1, factors)]
            for goal in range(-2, factors + 3):
                self.assertEqual(with_first_reach(factors, goal), first.count((goal,)))

    def test_with_last_join(self):
        for factors in range(1, 9):
            whole = [join for grouping in all_groupings(1, factors)
                     for join, start, reach in pairs_of(grouping) if (start, reach) == (1, factors)]
            for join in range(-2, factors + 3):
                self.assertEqual(with_last_join(factors, join), whole.count(join))

    def test_with_one_bracket(self):
        for factors in range(1, 9):
            spans = [(start, reach) for grouping in all_groupings(1, factors)
                     for join, start, reach in pairs_of(grouping)]
            for first in range(-1, factors + 2):
                for last in range(-1, factors + 2):
                    self.assertEqual(with_one_bracket(factors, first, last), spans.count((first, last)))

    def test_with_open_joins_and_steps_in_all(self):
        for factors in range(1, 9):
            opened = [len(steps_of(grouping)) for grouping in all_groupings(1, factors)]
            for many in range(-2, factors + 3):
                self.assertEqual(with_open_joins(factors, many), opened.count(many))
            self.assertEqual(steps_in_all(factors), sum(opened))

    def test_with_joins_from_one(self):
        for factors in range(1, 9):
            found = [starts_of(grouping).count(1) for grouping in all_groupings(1, factors)]
            for many in range(-2, factors + 3):
                self.assertEqual(with_joins_from_one(factors, many), found.count(many))
            for grouping, many in zip(all_groupings(1, factors), found):
                if factors > 1:
                    self.assertEqual(fewest_steps(from_left(factors), grouping), factors - 1 - many)

    def test_leading_pairs(self):
        for factors in range(1, 7):
            self.assertEqual(leading_pairs(factors), len(pairs_in_order(factors)))
        for factors in (7, 8):
            self.assertEqual(leading_pairs(factors), sum(map(many_behind, all_groupings(1, factors))))
            self.assertEqual(leading_pairs(factors), sum(map(many_ahead, all_groupings(1, factors))))

    def test_by_longest(self):
        for factors in range(1, 9):
            longest = [most_steps(from_left(factors), grouping) for grouping in all_groupings(1, factors)]
            self.assertEqual(by_longest(factors), tuple(longest.count(many) for many in range(max(longest) + 1)))
            least = sum(reaches_of(from_left(factors)))
            self.assertEqual(longest, [sum(reaches_of(grouping)) - least for grouping in all_groupings(1, factors)])

    def test_many_behind_and_many_ahead(self):
        for factors in range(1, 7):
            every = all_groupings(1, factors)
            for grouping in every:
                self.assertEqual(many_behind(grouping), len(led_to(grouping)))
                self.assertEqual(many_ahead(grouping), sum(grouping in led_to(other) for other in every))


class UpToTheBoundsTest(unittest.TestCase):
    def test_formulas(self):
        for factors in range(1, 61):
            j = factors - 1
            self.assertEqual(how_many(factors), comb(2 * j, j) // (j + 1))
            self.assertEqual(leading_pairs(factors) * factorial(j + 1) * factorial(3 * j + 2), 2 * factorial(4 * j + 1))
            if factors == 1:
                continue
            self.assertEqual(2 * steps_in_all(factors), (j - 1) * how_many(factors))
            for many in range(1, j + 1):
                self.assertEqual(with_joins_from_one(factors, many) * (2 * j - many), comb(2 * j - many, j) * many)
                self.assertEqual(with_open_joins(factors, many - 1) * j, comb(j, many) * comb(j, many - 1))

    def test_they_are_all_groupings_together(self):
        for factors in range(2, 61):
            every = how_many(factors)
            numbers = range(-1, factors + 2)
            self.assertEqual(sum(with_first_reach(factors, goal) for goal in numbers), every)
            self.assertEqual(sum(with_last_join(factors, join) for join in numbers), every)
            self.assertEqual(sum(with_open_joins(factors, many) for many in numbers), every)
            self.assertEqual(sum(with_joins_from_one(factors, many) for many in numbers), every)
            self.assertEqual(sum(many * with_open_joins(factors, many) for many in numbers), steps_in_all(factors))
            spans = [(first, last) for first in range(1, factors) for last in range(first + 1, factors + 1)]
            self.assertEqual(sum(with_one_bracket(factors, *span) for span in spans), every * (factors - 1))
            self.assertEqual(with_one_bracket(factors, 1, factors), every)

    def test_by_longest(self):
        for factors in range(1, 21):
            row = by_longest(factors)
            self.assertEqual(sum(row), how_many(factors))
            self.assertEqual(len(row), (factors - 1) * (factors - 2) // 2 + 1)
            self.assertEqual((row[0], row[-1]), (1, 1))
            self.assertNotIn(0, row)

    def test_sixty_factors(self):
        self.assertEqual(how_many(60), 405944995127576985730643443367112)
        self.assertEqual(with_first_reach(60, 60), how_many(59))
        self.assertEqual(with_last_join(60, 59), how_many(59))
        self.assertEqual(with_one_bracket(60, 7, 8), how_many(59))

    def test_large_groupings(self):
        for factors in (1, 2, 8, 29, 30, 60):
            left, right = from_left(factors), from_right(factors)
            self.assertEqual((many_behind(left), many_ahead(right)), (how_many(factors), how_many(factors)))
            self.assertEqual((many_behind(right), many_ahead(left)), (1, 1))
        for factors in (9, 12, 30):
            inner = 2
            for factor in range(3, factors + 1):
                inner = (inner, factor)
            # The first join reaches the end for good; the others are as free as one factor less.
            self.assertEqual(many_behind((1, inner)), how_many(factors - 1))
            self.assertEqual(many_ahead((from_right(factors - 1), factors)), how_many(factors - 1))

    def test_large_groupings_from_behind(self):
        for grouping in large_groupings():
            self.assertEqual(many_behind(grouping), many_ahead(groupings.mirrored(grouping)))
            self.assertLessEqual(many_behind(grouping), how_many(factors_in(grouping)))

    def test_each_is_behind_itself_and_what_is_behind_its_steps(self):
        for grouping in large_groupings():
            behind = [row[0] for row in steps_of(grouping).values()]
            if len(behind) == 1:
                self.assertEqual(many_behind(grouping), 1 + many_behind(behind[0]))
            for other in behind:
                self.assertLess(many_behind(other), many_behind(grouping))
                self.assertGreater(many_ahead(other), many_ahead(grouping))


class EdgesTest(unittest.TestCase):
    def test_one_factor(self):
        self.assertEqual((how_many(1), steps_in_all(1), leading_pairs(1), by_longest(1)), (1, 0, 1, (1,)))
        self.assertEqual((many_behind(1), many_ahead(1)), (1, 1))
        for number in FAR + (0, 1, 2):
            self.assertEqual(with_first_reach(1, number), 0)
            self.assertEqual(with_last_join(1, number), 0)
            self.assertEqual(with_one_bracket(1, number, 1), 0)
            self.assertEqual(with_one_bracket(1, 1, number), 0)
            self.assertEqual(with_open_joins(1, number), 1 if number == 0 else 0)
            self.assertEqual(with_joins_from_one(1, number), 1 if number == 0 else 0)

    def test_two_factors(self):
        self.assertEqual((how_many(2), steps_in_all(2), leading_pairs(2), by_longest(2)), (1, 0, 1, (1,)))
        self.assertEqual((with_first_reach(2, 2), with_last_join(2, 1), with_one_bracket(2, 1, 2)), (1, 1, 1))
        self.assertEqual((with_open_joins(2, 0), with_open_joins(2, 1)), (1, 0))
        self.assertEqual((with_joins_from_one(2, 0), with_joins_from_one(2, 1), with_joins_from_one(2, 2)), (0, 1, 0))

    def test_any_numbers(self):
        for factors in (2, 3, 8, 30, 60):
            for number in FAR:
                self.assertEqual(with_first_reach(factors, number), 0)
                self.assertEqual(with_last_join(factors, number), 0)
                self.assertEqual(with_open_joins(factors, number), 0)
                self.assertEqual(with_joins_from_one(factors, number), 0)
                for first, last in ((number, 2), (1, number), (number, number), (2, 1), (2, 2)):
                    self.assertEqual(with_one_bracket(factors, first, last), 0)


class GeneralRulesTest(unittest.TestCase):
    def test_lists_for_tuples_and_arguments_by_name(self):
        for grouping in small_groupings(5) + large_groupings()[::9]:
            for change in (as_lists, lists_mixed_in):
                handed = change(grouping)
                for tell in (many_behind, many_ahead):
                    self.assertEqual(tell(handed), tell(grouping))
                    self.assertEqual(tell(grouping=handed), tell(grouping))
                self.assertEqual(handed, change(grouping))

    def test_arguments_by_name(self):
        self.assertEqual((how_many(factors=5), steps_in_all(factors=5), leading_pairs(factors=5)), (14, 21, 68))
        self.assertEqual(by_longest(factors=4), (1, 2, 1, 1))
        self.assertEqual(with_first_reach(goal=2, factors=4), 2)
        self.assertEqual(with_last_join(join=3, factors=4), 2)
        self.assertEqual(with_one_bracket(last=3, first=2, factors=4), 2)
        self.assertEqual(with_open_joins(many=1, factors=4), 3)
        self.assertEqual(with_joins_from_one(many=3, factors=4), 1)

    def test_kinds(self):
        self.assertIs(type(by_longest(5)), tuple)
        for number in (how_many(5), steps_in_all(1), steps_in_all(5), leading_pairs(5), with_open_joins(5, 9),
                       with_open_joins(5, 1), with_joins_from_one(5, 2), many_behind((1, 2)), many_ahead((1, 2))):
            self.assertIs(type(number), int)


if __name__ == "__main__":
    unittest.main()
