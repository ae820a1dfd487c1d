"""[2], [3], [14]: depths, polygons, marks."""

import unittest
from itertools import combinations, permutations, product

from regroups import pictures
from regroups.groupings import factors_in, from_left, from_right, is_grouping
from regroups.order import leads_to
from regroups.pictures import (
    depths, diagonals, ears, is_depths, is_diagonals, is_left_depths, is_marks, is_right_depths, left_depths, marks,
    marks_place, of_depths, of_diagonals, of_marks, of_right_depths, right_depths, triangles, turned, turns_back,
)
from tests.examples import run_examples
from tests.samples import (
    HUGE, all_groupings, as_lists, brackets_of, factors_of, halved, large_groupings, lists_mixed_in, odd_things, pairs_of,
    rows_of, small_groupings, steps_of,
)

EXAMPLES = """
    >>> fours = ((1, 2), (3, 4))
    >>> right_depths(fours), left_depths(fours), depths(fours)
    ((0, 1, 1, 2), (2, 1, 1, 0), (2, 2, 2, 2))
    >>> near, far = (((1, 2), (3, 4)), 5), (1, ((2, 3), (4, 5)))
    >>> right_depths(near), right_depths(far), left_depths(near), left_depths(far), leads_to(near, far)
    ((0, 1, 1, 2, 1), (0, 1, 2, 2, 3), (3, 2, 2, 1, 0), (1, 2, 1, 1, 0), False)
    >>> of_right_depths((0, 1, 2, 1)), is_right_depths((0, 1, 3)), is_right_depths((0,)), is_left_depths((2, 1, 1, 0)), of_depths((1, 2, 2)), is_depths((2, 1, 2)), is_depths([0])
    (((1, (2, 3)), 4), False, True, True, (1, (2, 3)), False, False)
    >>> diagonals(fours), triangles(fours), ears(fours), ears((1, 2)), diagonals((1, 2))
    (((0, 2), (2, 4)), ((0, 1, 2), (0, 2, 4), (2, 3, 4)), (1, 3), (0, 1, 2), ())
    >>> is_diagonals(4, ((0, 2), (2, 4))), is_diagonals(4, ((0, 2), (1, 3))), is_diagonals(4, ((0, 2),)), is_diagonals(1, ()), of_diagonals(4, ((0, 3), (1, 3)))
    (True, False, False, True, ((1, (2, 3)), 4))
    >>> turned(fours, 1), turned(fours, -1), turns_back(fours), turned(((1, 2), 3), 1), turns_back(((1, 2), 3)), turns_back((1, 2))
    (((1, (2, 3)), 4), (1, ((2, 3), 4)), 5, (1, (2, 3)), 2, 1)
    >>> marks(fours), is_marks((1, 0, 0)), is_marks((0, 1, 0)), of_marks((1, 0, 1, 0, 0)), marks_place((0, 1, 0)), marks_place((0, 0, 1, 1, 0)), marks(1)
    ((1, 1, 0, 0, 1, 0, 0), True, False, (1, (2, 3)), 1, 2, (0,))
"""

ALL_BUT_THINGS = (right_depths, left_depths, depths, diagonals, triangles, ears, turns_back, marks)


def depths_of(part, left=0, right=0):
    """(left depth, right depth) of each factor, straight from the definition."""
    if isinstance(part, int):
        return [(left, right)]
    return depths_of(part[0], left + 1, right) + depths_of(part[1], left, right + 1)


def marks_of(part):
    return (0,) if isinstance(part, int) else (1,) + marks_of(part[0]) + marks_of(part[1])


def diagonals_of(grouping):
    factors = len(factors_of(grouping))
    return tuple(sorted((first - 1, last) for first, last in brackets_of(grouping) if (first, last) != (1, factors)))


def crossed(one, other):
    (a, b), (c, d) = sorted((one, other))
    return a < c < b < d


def turned_pairs(grouping, times):
    """The diagonals behind so many turns, corner by corner."""
    corners = len(factors_of(grouping)) + 1
    return tuple(sorted(tuple(sorted((corner + times) % corners for corner in pair)) for pair in diagonals_of(grouping)))


class ExamplesTest(unittest.TestCase):
    def test_examples_of_chapter_13(self):
        run_examples(self, EXAMPLES, {**vars(pictures), "leads_to": leads_to})


class DepthsTest(unittest.TestCase):
    def test_by_the_definition(self):
        for grouping in small_groupings(7) + large_groupings():
            found = depths_of(grouping)
            self.assertEqual(left_depths(grouping), tuple(left for left, right in found))
            self.assertEqual(right_depths(grouping), tuple(right for left, right in found))
            self.assertEqual(depths(grouping), tuple(left + right for left, right in found))

    def test_there_and_back(self):
        for grouping in small_groupings(7) + large_groupings():
            self.assertEqual(of_right_depths(right_depths(grouping)), grouping)
            self.assertEqual(of_right_depths(list(right_depths(grouping))), grouping)
            self.assertEqual(of_depths(depths(grouping)), grouping)
            self.assertEqual(of_depths(row=list(depths(grouping))), grouping)
            self.assertIs(is_right_depths(right_depths(grouping)), True)
            self.assertIs(is_left_depths(left_depths(grouping)), True)
            self.assertIs(is_depths(depths(grouping)), True)

    def test_just_these_rows(self):
        for factors in range(0, 6):
            every = all_groupings(1, factors) if factors else []
            rights = {right_depths(grouping) for grouping in every}
            lefts = {left_depths(grouping) for grouping in every}
            both = {depths(grouping) for grouping in every}
            self.assertEqual({len(rights), len(lefts), len(both)}, {len(every)})
            for row in rows_of(factors, -1, max(factors, 2)):
                self.assertIs(is_right_depths(row), row in rights)
                self.assertIs(is_left_depths(row), row in lefts)
                self.assertIs(is_depths(row), row in both)

    def test_other_things(self):
        for thing in odd_things() + [(0, 1, 2.0), (0, "1"), (0, 1, None), ((0,), 1), (0, 1, True)]:
            for tell in (is_right_depths, is_left_depths, is_depths):
                self.assertIs(tell(thing), False)
                self.assertIs(tell(thing=thing), False)
        for tell in (is_right_depths, is_left_depths, is_depths):
            self.assertIs(tell((0,)), True)
            self.assertIs(tell([0]), False)
            self.assertIs(tell(()), False)
        self.assertIs(is_right_depths((0,) + (1,) * 100000), True)
        self.assertIs(is_left_depths(tuple(range(3000, -1, -1))), True)
        self.assertIs(is_depths(tuple(range(1, 3000)) + (2999,)), True)

    def test_steps_change_depths(self):
        for grouping in small_groupings(6):
            for join, (behind, risen, goes, comes) in steps_of(grouping).items():
                near, far = right_depths(grouping), right_depths(behind)
                self.assertEqual([high - low for low, high in zip(near, far)],
                                 [1 if risen < factor <= comes[1] else 0 for factor in range(1, len(near) + 1)])
                near, far = left_depths(grouping), left_depths(behind)
                self.assertEqual([low - high for low, high in zip(near, far)],
                                 [1 if goes[0] <= factor <= join else 0 for factor in range(1, len(near) + 1)])


class PolygonTest(unittest.TestCase):
    def test_diagonals_triangles_and_ears(self):
        for grouping in small_groupings(7) + large_groupings():
            factors = factors_in(grouping)
            pairs = diagonals_of(grouping)
            self.assertEqual(diagonals(grouping), pairs)
            self.assertEqual(len(pairs), max(factors - 2, 0))
            self.assertEqual(triangles(grouping), tuple((start - 1, join, reach) for join, start, reach in pairs_of(grouping)))
            free = set(range(factors + 1)) - {corner for pair in pairs for corner in pair}
            self.assertEqual(ears(grouping), tuple(sorted(free)))
            self.assertIs(is_diagonals(factors, pairs), True)
            self.assertEqual(of_diagonals(factors, pairs), grouping)
            self.assertEqual(of_diagonals(pairs=as_lists(pairs), factors=factors), grouping)

    def test_just_these_sets(self):
        for factors in range(1, 6):
            every = {diagonals(grouping) for grouping in all_groupings(1, factors)}
            lines = [(near, far) for near in range(factors + 1) for far in range(near + 1, factors + 1)]
            for many in range(0, 5 if factors < 5 else 4):
                for pairs in combinations(lines, many):
                    self.assertIs(is_diagonals(factors, pairs), pairs in every)
                    self.assertIs(is_diagonals(thing=pairs, factors=factors), pairs in every)
            self.assertTrue(all(not crossed(one, other) for pairs in every for one, other in combinations(pairs, 2)))

    def test_sets_alone(self):
        for pairs in permutations(((0, 2), (0, 3), (0, 4))):
            self.assertIs(is_diagonals(5, pairs), pairs == ((0, 2), (0, 3), (0, 4)))
        self.assertIs(is_diagonals(4, ((0, 2), (0, 2))), False)
        self.assertIs(is_diagonals(4, ((0, 2), (4, 2))), False)
        self.assertIs(is_diagonals(3, ((0, 3),)), False)
        self.assertIs(is_diagonals(3, ((1, 2),)), False)
        self.assertIs(is_diagonals(3, ((2, 4),)), False)
        self.assertIs(is_diagonals(3, ((-1, 1),)), False)
        self.assertIs(is_diagonals(1, ((0, 2),)), False)
        self.assertIs(is_diagonals(2, ((0, 2),)), False)
        self.assertIs(is_diagonals(2, ()), True)

    def test_other_things(self):
        for thing in odd_things():
            for factors in (1, 2, 3, 4, 30):
                self.assertIs(is_diagonals(factors, thing), False)
        for thing in ([(0, 2)], ([0, 2],), ((0, 2, 3),), ((False, 2),), ((0, True),), ((0, "2"),), ((0,),), (0, 2), ()):
            self.assertIs(is_diagonals(3, thing), False)
        self.assertIs(is_diagonals(1, []), False)

    def test_turned(self):
        for grouping in small_groupings(6) + large_groupings()[::7]:
            corners = factors_in(grouping) + 1
            for times in (-1 - corners, -2, -1, 0, 1, 2, corners - 1, corners, corners + 1, 7 * corners + 3):
                found = turned(grouping, times)
                self.assertIs(is_grouping(found), True)
                self.assertEqual(diagonals_of(found), turned_pairs(grouping, times))
                self.assertEqual(turned(times=-times, grouping=found), grouping)
            self.assertEqual(turned(grouping, corners), grouping)
            self.assertEqual(turned(grouping, HUGE), turned(grouping, HUGE % corners))
            self.assertEqual(turned(grouping, -HUGE), turned(grouping, -HUGE % corners))

    def test_turns_back(self):
        seen = set()
        for grouping in small_groupings(8) + large_groupings():
            corners = factors_in(grouping) + 1
            own = set(diagonals_of(grouping))
            wanted = min(times for times in range(1, corners + 1) if set(turned_pairs(grouping, times)) == own)
            self.assertEqual(turns_back(grouping), wanted)
            self.assertEqual(turns_back(grouping=as_lists(grouping)), wanted)
            seen.add((corners // wanted, corners == wanted * (corners // wanted)))
        self.assertEqual(seen, {(1, True), (2, True), (3, True)})

    def test_turned_by_a_half_and_by_a_third_with_thirty_corners(self):
        fan = tuple((0, far) for far in range(2, 10))
        third = [(near, far) for near in (0, 10, 20) for far in range(near + 2, near + 10)]
        third += [(0, 10), (10, 20), (0, 20)]
        grouping = of_diagonals(29, tuple(sorted(third)))
        self.assertEqual(turns_back(grouping), 10)
        half = list(fan) + [(0, far) for far in range(10, 16)]
        half += [tuple(sorted(((near + 15) % 30, (far + 15) % 30))) for near, far in half if (near, far) != (0, 15)]
        grouping = of_diagonals(29, tuple(sorted(half)))
        self.assertEqual(turns_back(grouping), 15)
        self.assertEqual(turned(grouping, 15), grouping)
        self.assertEqual(turns_back(from_left(29)), 30)

    def test_a_step_turns_one_diagonal(self):
        for grouping in small_groupings(6):
            for behind, risen, goes, comes in steps_of(grouping).values():
                near, far = set(diagonals(grouping)), set(diagonals(behind))
                self.assertEqual(near - far, {(goes[0] - 1, goes[1])})
                self.assertEqual(far - near, {(comes[0] - 1, comes[1])})


class MarksTest(unittest.TestCase):
    def test_there_and_back(self):
        for grouping in small_groupings(7) + large_groupings():
            row = marks_of(grouping)
            self.assertEqual(marks(grouping), row)
            self.assertIs(is_marks(row), True)
            self.assertIs(is_marks(list(row)), False)
            self.assertEqual(of_marks(row), grouping)
            self.assertEqual(of_marks(row=list(row)), grouping)

    def test_just_these_rows(self):
        for length in range(0, 8):
            every = {marks(grouping) for grouping in all_groupings(1, (length + 1) // 2)} if length % 2 else set()
            for row in rows_of(length, -1, 2):
                self.assertIs(is_marks(row), row in every)

    def test_other_things(self):
        for thing in odd_things() + [(1, 0, False), (True, 0, 0), (1, 0, "0"), (1, 0, (0,)), (1, 0, HUGE), (1, 0, -HUGE)]:
            self.assertIs(is_marks(thing), False)
            self.assertIs(is_marks(thing=thing), False)
        self.assertIs(is_marks((0,)), True)
        self.assertIs(is_marks((1,) * 50000 + (0,) * 50001), True)
        self.assertIs(is_marks((1,) * 50000 + (0,) * 50000), False)

    def test_marks_place(self):
        for factors in range(1, 7):
            for row in product((0, 1), repeat=2 * factors - 1):
                if sum(row) == factors - 1:
                    places = [at for at in range(len(row)) if is_marks(row[at:] + row[:at])]
                    self.assertEqual([marks_place(row)], places)
                    self.assertEqual([marks_place(row=list(row))], places)

    def test_marks_that_begin_anywhere(self):
        for grouping in large_groupings():
            row = marks(grouping)
            for at in range(len(row)):
                self.assertEqual(marks_place(row[at:] + row[:at]), (len(row) - at) % len(row))


class EdgesTest(unittest.TestCase):
    def test_one_factor(self):
        self.assertEqual((right_depths(1), left_depths(1), depths(1)), ((0,), (0,), (0,)))
        self.assertEqual((of_right_depths((0,)), of_depths([0])), (1, 1))
        self.assertEqual((diagonals(1), triangles(1), ears(1), of_diagonals(1, ())), ((), (), (0, 1), 1))
        self.assertEqual((turned(1, 0), turned(1, 1), turned(1, -7), turns_back(1)), (1, 1, 1, 1))
        self.assertEqual((marks(1), of_marks((0,)), marks_place((0,))), ((0,), 1, 0))

    def test_two_factors(self):
        self.assertEqual((right_depths((1, 2)), left_depths((1, 2)), depths((1, 2))), ((0, 1), (1, 0), (1, 1)))
        self.assertEqual((diagonals((1, 2)), triangles((1, 2)), ears((1, 2))), ((), ((0, 1, 2),), (0, 1, 2)))
        self.assertEqual((turned((1, 2), 5), turns_back((1, 2)), of_diagonals(2, [])), ((1, 2), 1, (1, 2)))

    def test_ends(self):
        left, right = from_left(30), from_right(30)
        self.assertEqual(right_depths(right), tuple(range(30)))
        self.assertEqual(right_depths(left), (0,) + (1,) * 29)
        self.assertEqual(left_depths(left), tuple(range(29, 0, -1)) + (0,))
        self.assertEqual((ears(left), ears(right)), ((1, 30), (0, 29)))
        self.assertEqual(marks(left), (1,) * 29 + (0,) * 30)


class GeneralRulesTest(unittest.TestCase):
    def test_lists_for_tuples(self):
        for grouping in small_groupings(5) + large_groupings()[::13]:
            for change in (as_lists, lists_mixed_in):
                handed = change(grouping)
                for tell in ALL_BUT_THINGS:
                    self.assertEqual(repr(tell(handed)), repr(tell(grouping)))
                    self.assertEqual(repr(tell(grouping=handed)), repr(tell(grouping)))
                self.assertEqual(repr(turned(handed, 1)), repr(turned(grouping, 1)))
                self.assertEqual(handed, change(grouping))
        self.assertIs(is_grouping(turned(as_lists(halved(1, 30)), 30)), True)

    def test_order_alone_is_not_told_by_depths(self):
        near, far = (((1, 2), (3, 4)), 5), (1, ((2, 3), (4, 5)))
        self.assertTrue(all(low <= high for low, high in zip(right_depths(near), right_depths(far))))
        self.assertFalse(leads_to(near, far))


if __name__ == "__main__":
    unittest.main()
