"""[2], [3], [4]: groupings, reaches, starts, brackets."""

import unittest

from regroups import groupings
from regroups.errors import NoJoin, Unlike
from regroups.groupings import (
    brackets, factors_in, from_left, from_right, is_grouping, is_reaches, is_starts, mirrored, of_reaches, of_starts,
    reaches, starts,
)
from tests.examples import run_examples
from tests.samples import (
    all_groupings, as_lists, factors_of, halved, large_groupings, lists_mixed_in, pairs_of, reaches_of, rows_of,
    small_groupings, starts_of, turned_over,
)

EXAMPLES = """
    >>> grouping = ((1, (2, 3)), 4)
    >>> factors_in(grouping), reaches(grouping), starts(grouping), brackets(grouping), mirrored(grouping)
    (4, (3, 3, 4), (1, 2, 1), ((1, 3), (1, 4), (2, 3)), (1, ((2, 3), 4)))
    >>> of_reaches((2, 3, 4)), of_starts((1, 2, 3)), of_reaches(()), from_left(3), from_right(4), reaches(1), brackets(1)
    ((((1, 2), 3), 4), (1, (2, (3, 4))), 1, ((1, 2), 3), (1, (2, (3, 4))), (), ())
    >>> is_grouping(1), is_grouping((1, 2)), is_grouping((1, 3)), is_grouping(2), is_grouping([1, 2]), is_grouping((1, 2, 3))
    (True, True, False, False, False, False)
    >>> is_reaches((3, 3, 4)), is_reaches((3, 4, 4)), is_reaches((2, 4)), is_reaches(()), is_starts((1, 2, 1)), is_starts((1, 1, 2))
    (True, False, False, True, True, False)
"""

HUGE = 10 ** 5000


def other_things():
    """Things that are no grouping, no reaches and no starts."""
    deep = 1
    lists = []
    empty = ()
    for _ in range(39):
        deep, lists, empty = (deep, deep), [lists], (empty, empty)
    return [
        True, False, None, 0, -1, 2, 3, HUGE, -HUGE, "", "1", "ab", "12", "(1, 2)", NoJoin(1), Unlike(),
        [], [1], [1, 2], [2], [(1, 2), 3], ([1, 2], 3), (1, [2, 3]), [[1, 2], 3], [2, 3], [3, 3],
        (True,), (False,), (None,), ("",), ("2",), (0,), (-1,), (-HUGE,), (HUGE,), (NoJoin(1),), ((),), ((2,),), ([2],),
        ([],), (True, 2), (1, True), (1, HUGE), (0, 1), (2, 1), (1, 3), (-1, 2), (1, None), (1, "2"), ("1", 2),
        (1, (2,)), (1, ()), ((), 1), ((), ()), ((1,), 2), (1, 2, 4), ((1, 2), 2), ((1, 2), 4),
        ((1, 3), 2), (1, (3, 2)), ((2, 1), 3), (2, (3, 4)), ((1, 2), (1, 2)), ((1, True), 3), ((1, 2), True),
        ((1, 2), NoJoin(3)), ((1, 2), None), deep, lists, empty, (1, deep), (1, (2, lists)), (deep, deep),
        tuple([2] * 100000), [1] * 100000, "ab" * 50000,
    ]


class ExamplesTest(unittest.TestCase):
    def test_examples_of_chapter_3(self):
        run_examples(self, EXAMPLES, vars(groupings))


class IsGroupingTest(unittest.TestCase):
    def test_groupings(self):
        for grouping in small_groupings() + large_groupings():
            self.assertIs(is_grouping(grouping), True, grouping)

    def test_other_things(self):
        for thing in other_things() + [(1,), (2,), (1, 1), (2, 3), (3, 3), (1, 2, 3), (1, 1, 1), (1,) * 100000]:
            self.assertIs(is_grouping(thing), False)

    def test_a_list_anywhere(self):
        for grouping in small_groupings(5)[1:]:
            self.assertIs(is_grouping(as_lists(grouping)), False)
            self.assertIs(is_grouping(list(grouping)), False)
            self.assertIs(is_grouping(lists_mixed_in(grouping)), False)
            for left, right in ((as_lists(grouping[0]), grouping[1]), (grouping[0], as_lists(grouping[1]))):
                self.assertIs(is_grouping((left, right)), repr((left, right)) == repr(grouping))

    def test_one_factor_wrong_anywhere(self):
        for grouping in small_groupings(5):
            factors = factors_in(grouping)
            for factor in range(1, factors + 1):
                for wrong in (factor - 1, factor + 1, -factor, True, None, str(factor), (factor,), HUGE, NoJoin(factor)):
                    self.assertIs(is_grouping(replaced(grouping, factor, wrong)), False, (grouping, factor, wrong))

    def test_beyond_the_bounds(self):
        wide = halved(1, 5000)
        self.assertIs(is_grouping(wide), True)
        self.assertIs(is_grouping((wide, 5001)), True)
        self.assertIs(is_grouping((wide, 5002)), False)
        self.assertIs(is_grouping((wide, wide)), False)
        self.assertIs(is_grouping(from_left(41)), True)
        self.assertIs(is_grouping(from_right(41)), True)

    def test_the_same_pair_very_often(self):
        for part in (1, 2, (1, 2), ((1, 2), 3), (), (1,), "ab", [1, 2]):
            for _ in range(38):
                part = (part, part)
            self.assertIs(is_grouping(part), False)
            self.assertIs(is_grouping((1, part)), False)
            self.assertIs(is_reaches(part), False)
            self.assertIs(is_starts(part), False)


def replaced(part, factor, thing):
    if isinstance(part, tuple):
        return replaced(part[0], factor, thing), replaced(part[1], factor, thing)
    return thing if part == factor else part


class RowsTest(unittest.TestCase):
    def test_factors_reaches_starts_brackets_by_the_definitions(self):
        for grouping in small_groupings() + large_groupings():
            self.assertEqual(factors_in(grouping), len(factors_of(grouping)))
            self.assertEqual(reaches(grouping), reaches_of(grouping))
            self.assertEqual(starts(grouping), starts_of(grouping))
            spans = sorted((start, reach) for join, start, reach in pairs_of(grouping))
            self.assertEqual(brackets(grouping), tuple(spans))

    def test_there_are_as_many_as_there_should_be(self):
        self.assertEqual([len(all_groupings(1, factors)) for factors in range(1, 8)], [1, 1, 2, 5, 14, 42, 132])

    def test_reaches_and_starts_lead_back(self):
        for grouping in small_groupings() + large_groupings():
            self.assertEqual(of_reaches(reaches(grouping)), grouping)
            self.assertEqual(of_starts(starts(grouping)), grouping)
            self.assertIs(is_grouping(of_reaches(reaches(grouping))), True)
            self.assertIs(is_grouping(of_starts(starts(grouping))), True)

    def test_each_row_tells_the_grouping(self):
        for factors in range(1, 8):
            every = all_groupings(1, factors)
            for tell in (reaches, starts, brackets):
                self.assertEqual(len({tell(grouping) for grouping in every}), len(every))

    def test_just_the_rows_of_groupings_are_reaches_and_starts(self):
        for factors in range(1, 6):
            every = all_groupings(1, factors)
            found_reaches = {reaches_of(grouping) for grouping in every}
            found_starts = {starts_of(grouping) for grouping in every}
            for row in rows_of(factors - 1, -1, factors + 1):
                self.assertIs(is_reaches(row), row in found_reaches, row)
                self.assertIs(is_starts(row), row in found_starts, row)

    def test_rows_of_six_factors(self):
        every = all_groupings(1, 6)
        rows = rows_of(5, 1, 6)
        self.assertEqual([row for row in rows if is_reaches(row)], sorted(map(reaches_of, every)))
        self.assertEqual([row for row in rows if is_starts(row)], sorted(map(starts_of, every)))

    def test_large_rows(self):
        for grouping in large_groupings():
            self.assertIs(is_reaches(reaches(grouping)), True)
            self.assertIs(is_starts(starts(grouping)), True)
            self.assertIs(is_reaches(list(reaches(grouping))), False)
            self.assertIs(is_starts(list(starts(grouping))), False)

    def test_a_row_with_one_number_changed(self):
        for grouping in small_groupings(6)[1:]:
            for tell, check in ((reaches, is_reaches), (starts, is_starts)):
                row = tell(grouping)
                for at in range(len(row)):
                    for wrong in (True, False, None, str(row[at]), (row[at],), HUGE, -HUGE, NoJoin(1), [row[at]]):
                        self.assertIs(check(row[:at] + (wrong,) + row[at + 1:]), False)

    def test_other_things_are_no_rows(self):
        for thing in other_things() + [1, ((1, 2), 3), (1, (2, 3))]:
            self.assertIs(is_reaches(thing), False)
            self.assertIs(is_starts(thing), False)
        for row in ((1,), (1, 1), (1, 2), (2, 2), (3, 2), (2, 4), (4, 4), (3, 4, 4), (1,) * 100000):
            self.assertIs(is_reaches(row), False)
        for row in ((2,), (2, 1), (2, 2), (1, 3), (2, 3), (1, 0), (1, 1, 2), (1, 2, 4)):
            self.assertIs(is_starts(row), False)

    def test_rows_beyond_the_bounds(self):
        left = tuple(range(2, 100001))
        self.assertIs(is_reaches(left), True)
        self.assertIs(is_reaches(left + (99999,)), False)
        self.assertIs(is_reaches((100000,) * 99999), True)
        self.assertIs(is_reaches((100001,) + (100000,) * 99998), False)
        self.assertIs(is_starts((1,) * 99999), True)
        self.assertIs(is_starts(tuple(range(1, 100000))), True)
        self.assertIs(is_starts((1,) * 99998 + (0,)), False)

    def test_one_factor_and_two(self):
        self.assertEqual((factors_in(1), reaches(1), starts(1), brackets(1), mirrored(1)), (1, (), (), (), 1))
        self.assertEqual((of_reaches(()), of_starts(()), of_reaches([]), of_starts([])), (1, 1, 1, 1))
        self.assertIs(is_reaches(()), True)
        self.assertIs(is_starts(()), True)
        pair = (1, 2)
        self.assertEqual((factors_in(pair), reaches(pair), starts(pair)), (2, (2,), (1,)))
        self.assertEqual((brackets(pair), mirrored(pair)), (((1, 2),), pair))
        self.assertEqual((of_reaches((2,)), of_starts((1,))), (pair, pair))


class MadeTest(unittest.TestCase):
    def test_from_left_and_from_right(self):
        self.assertEqual([from_left(factors) for factors in (1, 2, 3, 4)], [1, (1, 2), ((1, 2), 3), (((1, 2), 3), 4)])
        self.assertEqual([from_right(factors) for factors in (1, 2, 3, 4)], [1, (1, 2), (1, (2, 3)), (1, (2, (3, 4)))])
        for factors in range(1, 31):
            joins = range(1, factors)
            self.assertEqual(reaches(from_left(factors)), tuple(join + 1 for join in joins))
            self.assertEqual(starts(from_left(factors)), tuple(1 for join in joins))
            self.assertEqual(reaches(from_right(factors)), tuple(factors for join in joins))
            self.assertEqual(starts(from_right(factors)), tuple(joins))
            self.assertEqual(mirrored(from_left(factors)), from_right(factors))

    def test_mirrored_by_the_definition(self):
        for grouping in small_groupings() + large_groupings():
            self.assertEqual(mirrored(grouping), turned_over(grouping, factors_in(grouping)))
            self.assertEqual(mirrored(mirrored(grouping)), grouping)


class GeneralRulesTest(unittest.TestCase):
    def test_lists_for_tuples(self):
        for grouping in small_groupings(6) + large_groupings():
            for tell in (factors_in, reaches, starts, brackets, mirrored):
                wanted = repr(tell(grouping))
                for change in (as_lists, lists_mixed_in):
                    handed = change(grouping)
                    self.assertEqual(repr(tell(handed)), wanted)
                    self.assertEqual(repr(tell(grouping=handed)), wanted)
                    self.assertEqual(handed, change(grouping))
            for make, row in ((of_reaches, reaches(grouping)), (of_starts, starts(grouping))):
                handed = list(row)
                self.assertEqual(repr(make(handed)), repr(grouping))
                self.assertEqual(repr(make(rows=handed)), repr(grouping))
                self.assertEqual(handed, list(row))

    def test_arguments_by_name_and_the_same_call_again(self):
        grouping = ((1, (2, 3)), 4)
        for _ in range(2):
            self.assertIs(is_grouping(thing=grouping), True)
            self.assertIs(is_reaches(thing=(3, 3, 4)), True)
            self.assertIs(is_starts(thing=(1, 2, 1)), True)
            self.assertEqual(factors_in(grouping=grouping), 4)
            self.assertEqual(reaches(grouping=grouping), (3, 3, 4))
            self.assertEqual(starts(grouping=grouping), (1, 2, 1))
            self.assertEqual(of_reaches(rows=(3, 3, 4)), grouping)
            self.assertEqual(of_starts(rows=(1, 2, 1)), grouping)
            self.assertEqual(brackets(grouping=grouping), ((1, 3), (1, 4), (2, 3)))
            self.assertEqual(from_left(factors=3), ((1, 2), 3))
            self.assertEqual(from_right(factors=3), (1, (2, 3)))
            self.assertEqual(mirrored(grouping=grouping), (1, ((2, 3), 4)))

    def test_things_are_not_changed(self):
        for thing in ([[1, 2], 3], [3, 3, 4], [1, 2, 1], ([1, 2], 3)):
            before = repr(thing)
            for check in (is_grouping, is_reaches, is_starts):
                self.assertIs(check(thing), False)
            self.assertEqual(repr(thing), before)


if __name__ == "__main__":
    unittest.main()
