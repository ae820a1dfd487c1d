"""[2], [3], [7]: routes."""

import unittest

from regroups import routes
from regroups.errors import NoJoin, NotBehind, NotOpen, Unlike
from regroups.groupings import factors_in, from_left, from_right, is_grouping
from regroups.routes import (
    by_joins, fewest_steps, hops, is_route, joins_of, most_steps, next_joins, on_fewest, on_most, possible_reaches,
    route, sure_reaches,
)
from tests.examples import check_raises, run_examples
from tests.samples import (
    all_groupings, as_lists, halved, large_groupings, large_pairs, led_to, lists_mixed_in, nexts_of, pairs_in_order,
    reaches_of, routes_between, small_groupings, steps_of,
)

EXAMPLES = """
    >>> left, right, twos = (((1, 2), 3), 4), (1, (2, (3, 4))), ((1, 2), (3, 4))
    >>> near, far = ((1, (2, 3)), 4), (1, ((2, 3), 4))
    >>> fewest_steps(left, right), most_steps(left, right), fewest_steps(near, twos), hops(left, right), most_steps(far, far)
    (2, 3, None, ((1, 1, 0), (2, 1, 0)), 0)
    >>> sure_reaches(left, right, 1), possible_reaches(left, right, 1), sure_reaches(left, right, 3), next_joins(left, right), next_joins(left, near)
    ((2, 4), (2, 3, 4), (4,), (1, 2), (1,))
    >>> route(left, right) == [left, twos, right], route(left, right, 3) == [left, near, far, right], route(left, right, 4), route(near, twos), route(far, far) == [far]
    (True, True, None, None, True)
    >>> by_joins(left, (2, 1)) == [left, twos, right], joins_of([left, near, far, right]), joins_of([far]), is_route(left, right, (left, twos, right)), is_route(left, right, [left, twos, right]), is_route(left, right, (left, right))
    (True, (1, 1, 2), (), True, False, False)
    >>> on_fewest(left, near, right), on_fewest(left, twos, right), on_most(left, near, right), on_most(left, twos, right), on_most(near, left, right)
    (False, True, True, False, False)
    >>> by_joins(left, (1, 2))
    raises NotOpen(join=2)
    >>> sure_reaches(left, right, 4)
    raises NoJoin(join=4)
"""

HUGE = 10 ** 5000
FAR_JOINS = (-HUGE, -31, -1, 0, 31, HUGE)


def small_pairs():
    return [pair for factors in range(1, 6) for pair in pairs_in_order(factors)] + pairs_in_order(6)[::7]


def pairs_apart(most):
    """Pairs of groupings of which the first one does not lead to the second."""
    return [(one, other) for factors in range(1, most + 1)
            for one in all_groupings(1, factors) for other in all_groupings(1, factors) if other not in led_to(one)]


def steps_away(one):
    """{grouping: fewest steps to it}, by going on step by step."""
    found, edge = {one: 0}, [one]
    while edge:
        behind = []
        for grouping in edge:
            for each in nexts_of(grouping):
                if each not in found:
                    found[each] = found[grouping] + 1
                    behind.append(each)
        edge = behind
    return found


def most_away(one):
    """{grouping: most steps to it}."""
    found = {}
    for grouping in sorted(led_to(one), key=reaches_of):
        found[grouping] = max([found[ahead] + 1 for ahead in found if grouping in nexts_of(ahead)], default=0)
    return found


def rises_of(row):
    """How often the reach of each join rises on this route."""
    rows = [reaches_of(grouping) for grouping in row]
    return tuple(sum(near[at] != far[at] for near, far in zip(rows, rows[1:])) for at in range(len(rows[0])))


class ExamplesTest(unittest.TestCase):
    def test_examples_of_chapter_6(self):
        run_examples(self, EXAMPLES, vars(routes))


class AllRoutesTest(unittest.TestCase):
    """Compares with all routes, which are listed."""

    def setUp(self):
        self.pairs = [(one, other, routes_between(one, other)) for one, other in small_pairs()]

    def test_fewest_and_most_steps(self):
        for one, other, every in self.pairs:
            lengths = {len(row) - 1 for row in every}
            self.assertEqual((fewest_steps(one, other), most_steps(one, other)), (min(lengths), max(lengths)))

    def test_hops(self):
        for one, other, every in self.pairs:
            rises = [rises_of(row) for row in every]
            fewest, most = hops(one, other)
            self.assertEqual(fewest, tuple(min(column) for column in zip(*rises)))
            self.assertEqual(most, tuple(max(column) for column in zip(*rises)))
            self.assertIn(fewest, rises)
            self.assertIn(most, rises)

    def test_sure_and_possible_reaches(self):
        for one, other, every in self.pairs:
            for join in range(1, factors_in(one)):
                had = [{reaches_of(grouping)[join - 1] for grouping in row} for row in every]
                self.assertEqual(sure_reaches(one, other, join), tuple(sorted(set.intersection(*had))))
                self.assertEqual(possible_reaches(one, other, join), tuple(sorted(set.union(*had))))

    def test_route_with_each_number_of_steps(self):
        for one, other, every in self.pairs:
            lengths = {len(row) - 1 for row in every}
            for many in range(-2, max(lengths) + 3):
                found = route(one, other, many)
                if many in lengths:
                    self.assertEqual(len(found), many + 1)
                    self.assertIn(found, every)
                else:
                    self.assertIsNone(found)
            for many in (-HUGE, -1, HUGE):
                self.assertIsNone(route(one, other, many))
            self.assertIn(route(one, other), every)
            self.assertEqual(len(route(one, other)), min(lengths) + 1)
            self.assertEqual(route(one, other, None), route(one, other))

    def test_routes_and_their_joins(self):
        for one, other, every in self.pairs:
            for row in every:
                self.assertIs(is_route(one, other, tuple(row)), True)
                joins = joins_of(row)
                self.assertEqual(joins_of(tuple(row)), joins)
                self.assertEqual([steps_of(near)[join][0] for near, join in zip(row, joins)], row[1:])
                self.assertEqual(len(joins), len(row) - 1)
                self.assertEqual(by_joins(one, joins), row)

    def test_on_fewest_and_on_most(self):
        for one, other, every in self.pairs:
            lengths = [len(row) for row in every]
            shortest = {grouping for row in every if len(row) == min(lengths) for grouping in row}
            longest = {grouping for row in every if len(row) == max(lengths) for grouping in row}
            for grouping in all_groupings(1, factors_in(one)):
                self.assertIs(on_fewest(one, grouping, other), grouping in shortest)
                self.assertIs(on_most(one, grouping, other), grouping in longest)

    def test_next_joins(self):
        for one, other, every in self.pairs:
            wanted = [join for join, row in steps_of(one).items() if other in led_to(row[0])]
            self.assertEqual(next_joins(one, other), tuple(sorted(wanted)))
            self.assertEqual(bool(next_joins(one, other)), one != other)


class SevenFactorsTest(unittest.TestCase):
    def test_fewest_and_most_steps(self):
        for one in all_groupings(1, 7)[::6]:
            shortest, longest = steps_away(one), most_away(one)
            for other in all_groupings(1, 7):
                self.assertEqual(fewest_steps(one, other), shortest.get(other))
                self.assertEqual(most_steps(one, other), longest.get(other))


class NoRouteTest(unittest.TestCase):
    def test_none_where_one_does_not_lead_to_other(self):
        for one, other in pairs_apart(5):
            self.assertIsNone(fewest_steps(one, other))
            self.assertIsNone(most_steps(one, other))
            self.assertIsNone(route(one, other))
            for many in range(-1, 5):
                self.assertIsNone(route(one, other, many))
            self.assertIs(is_route(one, other, (one, other)), False)
            self.assertIs(is_route(one, other, (one,)), False)
            self.assertIs(is_route(one, other, (other,)), False)


class LargeOnesTest(unittest.TestCase):
    def test_route(self):
        for one, other in large_pairs():
            row = route(one, other)
            self.assertEqual(len(row) - 1, fewest_steps(one, other))
            self.assertEqual((row[0], row[-1]), (one, other))
            for near, far in zip(row, row[1:]):
                self.assertIn(far, nexts_of(near))
                self.assertIs(on_fewest(one, far, other), True)
            self.assertIs(is_route(one, other, tuple(row)), True)
            self.assertEqual(rises_of(row), hops(one, other)[0])
            self.assertEqual(by_joins(one, joins_of(row)), row)

    def test_up_to_sixteen_factors_with_each_number_of_steps(self):
        pairs = [pair for pair in large_pairs() if factors_in(pair[0]) <= 12]
        pairs += [(from_left(factors), from_right(factors)) for factors in (10, 16)]
        for one, other in pairs:
            fewest, most = fewest_steps(one, other), most_steps(one, other)
            self.assertLessEqual(fewest, most)
            for many in sorted({fewest, fewest + 1, (fewest + most) // 2, most - 1, most} & set(range(fewest, most + 1))):
                row = route(one, other, many)
                self.assertEqual(len(row), many + 1)
                self.assertIs(is_route(one, other, tuple(row)), True)
            self.assertIsNone(route(one, other, fewest - 1))
            self.assertIsNone(route(one, other, most + 1))
            self.assertEqual(rises_of(route(one, other, most)), hops(one, other)[1])

    def test_from_left_to_from_right(self):
        for factors in range(2, 31):
            left, right = from_left(factors), from_right(factors)
            self.assertEqual(fewest_steps(left, right), factors - 2)
            self.assertEqual(most_steps(left, right), (factors - 1) * (factors - 2) // 2)
            self.assertEqual(sure_reaches(left, right, 1), (2, factors) if factors > 2 else (2,))
            self.assertEqual(possible_reaches(left, right, 1), tuple(range(2, factors + 1)))
            self.assertEqual(next_joins(left, right), tuple(range(1, factors - 1)))

    def test_thirty_factors_with_as_few_steps_as_can_be(self):
        pairs = [(from_left(30), from_right(30)), (halved(1, 30), from_right(30)), (from_left(30), halved(1, 30)),
                 many_steps_apart(30)]
        for one, other in pairs:
            for row in (route(one, other), route(one, other, None), route(as_lists(one), as_lists(other))):
                self.assertEqual((row[0], row[-1], len(row) - 1), (one, other, fewest_steps(one, other)))
                for near, far in zip(row, row[1:]):
                    self.assertIn(far, nexts_of(near))
                self.assertIs(is_route(one, other, tuple(row)), True)
            self.assertIsNone(route(other, one))
            check_raises(self, Unlike(), lambda: route(one, from_right(29)))

    def test_many_steps_at_the_least(self):
        one, other = many_steps_apart(30)
        self.assertEqual(fewest_steps(one, other), 15 * 14)
        self.assertEqual(len(route(one, other)), 15 * 14 + 1)


def many_steps_apart(factors):
    """A pair of groupings of so many factors, an even number, that are many steps apart at the least."""
    half = factors // 2
    one, other = from_right(half + 1), half + 1
    for factor in range(half + 2, factors + 1):
        one, other = (one, factor), (other, factor)
    for factor in range(half, 0, -1):
        other = (factor, other)
    return one, other


class IsRouteTest(unittest.TestCase):
    def test_other_things(self):
        left, mid, right = ((1, 2), 3), (1, 2), (1, (2, 3))
        deep = 1
        for _ in range(38):
            deep = (deep, deep)
        for thing in (
                None, True, False, 0, 1, HUGE, "", "ab", NoJoin(1), Unlike(), [], (), [left, right], ([], right),
                (left, [1, [2, 3]]), ([[1, 2], 3], right), (left,), (right,), (left, left, right), (left, right, right),
                (right, left), (left, mid, right), (left, None, right), (left, 1, right), (left, ((1, 2), True), right),
                (left, right, None), (None, left, right), (left, right, left, right), left, right, deep, (left, deep),
                (deep, right), (left, deep, right), (left,) * 100000 + (right,), (1,) * 100000, ((left, right),),
                (left, (1, (2, 3), 4)), (left, (HUGE, (2, 3))), (((True, 2), 3), right)):
            self.assertIs(is_route(left, right, thing), False)
            self.assertIs(is_route(one=left, other=right, thing=thing), False)
        self.assertIs(is_route(left, right, (left, right)), True)
        for thing in ((True,), [1], 1, (1, 1), (2,), ((1,),), ("1",), ((1, 2),)):
            self.assertIs(is_route(1, 1, thing), False)
        self.assertIs(is_route(1, 1, (1,)), True)

    def test_beyond_the_bounds(self):
        wide = halved(1, 4000)
        left, right = ((1, 2), 3), (1, (2, 3))
        for thing in ((wide,), (left, wide), (wide, right), (left, wide, wide, right), (wide,) * 1000):
            self.assertIs(is_route(left, right, thing), False)

    def test_just_the_routes(self):
        for factors in range(1, 5):
            every = all_groupings(1, factors)
            for one in every:
                for other in every:
                    found = {tuple(row) for row in routes_between(one, other)}
                    for many in (1, 2, 3):
                        for row in rows_of_groupings(every, many):
                            self.assertIs(is_route(one, other, row), row in found)

    def test_no_two_steps_at_once_and_none_back(self):
        for one, other in large_pairs():
            row = tuple(route(one, other))
            if len(row) < 3:
                continue
            self.assertIs(is_route(one, other, row[:1] + row[2:]), False)
            self.assertIs(is_route(other, one, row[::-1]), False)
            self.assertIs(is_route(one, row[-2], row), False)
            self.assertIs(is_route(row[1], other, row), False)
            self.assertIs(is_route(one, other, list(row)), False)
            self.assertIs(is_route(one, other, row[:1] + (as_lists(row[1]),) + row[2:]), False)
            self.assertIs(is_route(as_lists(one), as_lists(other), row), True)


def rows_of_groupings(every, many):
    if many == 0:
        return [()]
    return [(grouping,) + row for grouping in every for row in rows_of_groupings(every, many - 1)]


class EdgesTest(unittest.TestCase):
    def test_one_factor(self):
        self.assertEqual((fewest_steps(1, 1), most_steps(1, 1), hops(1, 1)), (0, 0, ((), ())))
        self.assertEqual((route(1, 1), route(1, 1, 0), route(1, 1, 1)), ([1], [1], None))
        self.assertEqual((next_joins(1, 1), by_joins(1, ()), joins_of([1]), joins_of((1,))), ((), [1], (), ()))
        self.assertEqual((on_fewest(1, 1, 1), on_most(1, 1, 1)), (True, True))
        check_raises(self, NoJoin(1), lambda: sure_reaches(1, 1, 1))
        check_raises(self, NoJoin(0), lambda: possible_reaches(1, 1, 0))

    def test_equal_ones(self):
        for grouping in small_groupings(5) + large_groupings():
            joins = range(1, factors_in(grouping))
            self.assertEqual((fewest_steps(grouping, grouping), most_steps(grouping, grouping)), (0, 0))
            self.assertEqual(hops(grouping, grouping), ((0,) * len(joins), (0,) * len(joins)))
            self.assertEqual(route(grouping, grouping), [grouping])
            self.assertEqual(next_joins(grouping, grouping), ())
            self.assertIs(is_route(grouping, grouping, (grouping,)), True)
            self.assertIs(is_route(grouping, grouping, (grouping, grouping)), False)
            self.assertIs(on_fewest(grouping, grouping, grouping), True)
            for join in joins:
                own = (reaches_of(grouping)[join - 1],)
                self.assertEqual(sure_reaches(grouping, grouping, join), own)
                self.assertEqual(possible_reaches(grouping, grouping, join), own)

    def test_no_joins(self):
        for grouping in small_groupings(5):
            self.assertEqual(by_joins(grouping, ()), [grouping])
            self.assertEqual(by_joins(as_lists(grouping), []), [grouping])


class ErrorsTest(unittest.TestCase):
    def test_unlike_ahead_of_all_else(self):
        for one, other in ((1, (1, 2)), ((1, 2), 1), ((1, (2, 3)), (1, 2)), (from_right(30), from_left(29))):
            for near, far in ((one, other), (as_lists(one), as_lists(other))):
                for tell in (fewest_steps, most_steps, hops, route, next_joins):
                    check_raises(self, Unlike(), lambda: tell(near, far))
                check_raises(self, Unlike(), lambda: route(near, far, 0))
                check_raises(self, Unlike(), lambda: is_route(near, far, (one, other)))
                check_raises(self, Unlike(), lambda: is_route(near, far, None))
                for join in (1,) + FAR_JOINS:
                    check_raises(self, Unlike(), lambda: sure_reaches(near, far, join))
                    check_raises(self, Unlike(), lambda: possible_reaches(near, far, join))
                for tell in (on_fewest, on_most):
                    for three in ((near, near, far), (near, far, near), (far, near, near)):
                        check_raises(self, Unlike(), lambda: tell(*three))

    def test_unlike_ahead_of_not_behind(self):
        for tell in (on_fewest, on_most):
            check_raises(self, Unlike(), lambda: tell((1, (2, 3)), (1, 2), ((1, 2), 3)))

    def test_not_behind(self):
        for one, other in pairs_apart(4) + [(from_right(30), from_left(30))]:
            for near, far in ((one, other), (as_lists(one), as_lists(other))):
                check_raises(self, NotBehind(), lambda: hops(near, far))
                check_raises(self, NotBehind(), lambda: next_joins(near, far))
                for join in range(1, factors_in(one)):
                    check_raises(self, NotBehind(), lambda: sure_reaches(near, far, join))
                    check_raises(self, NotBehind(), lambda: possible_reaches(near, far, join))
                for grouping in (one, other, from_left(factors_in(one))):
                    check_raises(self, NotBehind(), lambda: on_fewest(near, grouping, far))
                    check_raises(self, NotBehind(), lambda: on_most(near, grouping, far))

    def test_no_join_ahead_of_not_behind(self):
        for factors in (1, 2, 3, 4, 30):
            for one, other in ((from_left(factors), from_right(factors)), (from_right(factors), from_left(factors))):
                for join in FAR_JOINS + (factors, factors + 1):
                    check_raises(self, NoJoin(join), lambda: sure_reaches(one, other, join))
                    check_raises(self, NoJoin(join), lambda: possible_reaches(one, other, join=join))

    def test_by_joins(self):
        left = from_left(4)
        for joins, wanted in (
                ((1, 2), NotOpen(2)), ((1, 3, 9), NotOpen(3)), ((1, 4, 3), NoJoin(4)), ((1, 1, 2, 2), NotOpen(2)),
                ((1, 1, 0, 2), NoJoin(0)), ((3, 1), NotOpen(3)), ((-1, 3), NoJoin(-1)), ((2, 1, 1), NotOpen(1)),
                ((2, 2, 5), NotOpen(2)), ((1, 1, 2, HUGE), NoJoin(HUGE))):
            check_raises(self, wanted, lambda: by_joins(left, joins))
            check_raises(self, wanted, lambda: by_joins(one=as_lists(left), joins=list(joins)))
        check_raises(self, NoJoin(1), lambda: by_joins(1, (1,)))


class GeneralRulesTest(unittest.TestCase):
    def test_lists_for_tuples_and_arguments_by_name(self):
        pairs = [pair for factors in range(1, 5) for pair in pairs_in_order(factors)] + large_pairs()[::9]
        for one, other in pairs:
            row = route(one, other)
            for change in (as_lists, lists_mixed_in):
                near, far = change(one), change(other)
                for tell in (fewest_steps, most_steps, hops, route, next_joins):
                    self.assertEqual(repr(tell(near, far)), repr(tell(one, other)))
                    self.assertEqual(repr(tell(other=far, one=near)), repr(tell(one, other)))
                self.assertEqual(repr(route(many=len(row) - 1, other=far, one=near)), repr(route(one, other, len(row) - 1)))
                for tell in (sure_reaches, possible_reaches):
                    for join in range(1, factors_in(one)):
                        self.assertEqual(repr(tell(join=join, other=far, one=near)), repr(tell(one, other, join)))
                for tell in (on_fewest, on_most):
                    self.assertIs(tell(other=far, grouping=near, one=near), True)
                handed = [change(grouping) for grouping in row]
                self.assertEqual(joins_of(handed), joins_of(row))
                self.assertEqual(joins_of(groupings=tuple(handed)), joins_of(row))
                self.assertEqual(repr(by_joins(joins=list(joins_of(row)), one=near)), repr(row))
                self.assertIs(is_route(near, far, tuple(row)), True)
                self.assertEqual(handed, [change(grouping) for grouping in row])
                self.assertEqual((near, far), (change(one), change(other)))

    def test_lists_are_new_and_hold_groupings(self):
        one, other = as_lists(from_left(5)), as_lists(from_right(5))
        for tell in (lambda: route(one, other), lambda: route(one, other, 5), lambda: by_joins(one, [1, 1]),
                     lambda: by_joins(one, []), lambda: route(one, one)):
            first = tell()
            self.assertIs(type(first), list)
            self.assertTrue(all(is_grouping(grouping) for grouping in first))
            wanted = list(first)
            first.append("more")
            self.assertEqual(tell(), wanted)

    def test_tuples_are_tuples(self):
        one, other = as_lists(from_left(5)), as_lists(from_right(5))
        for told in (hops(one, other), hops(one, other)[0], hops(one, other)[1], sure_reaches(one, other, 1),
                     possible_reaches(one, other, 1), next_joins(one, other), joins_of([one])):
            self.assertIs(type(told), tuple)


if __name__ == "__main__":
    unittest.main()
