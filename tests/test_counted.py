"""[2], [3], [17]: routes counted."""

import unittest
from fractions import Fraction

from regroups import counted
from regroups.between import Between
from regroups.counted import Routes
from regroups.errors import Gainsaid, NoNumber, NotBehind, Unlike
from regroups.groupings import from_left, from_right, is_grouping
from regroups.routes import by_joins, fewest_steps, is_route, joins_of, most_steps
from tests.examples import check_raises, run_examples
from tests.samples import (
    HUGE, all_groupings, as_lists, halved, led_to, lists_mixed_in, listed_between, nexts_of, odd_things, pairs_in_order,
    routes_between, small_groupings,
)

EXAMPLES = """
    >>> left, right, twos = (((1, 2), 3), 4), (1, (2, (3, 4))), ((1, 2), (3, 4))
    >>> near, far = ((1, (2, 3)), 4), (1, ((2, 3), 4))
    >>> routes = Routes(left, right)
    >>> routes.many, routes.lengths, routes.average, routes.start == left, routes.sure() == [left, right], routes == Routes(left, right), routes == Routes(left, far)
    (2, ((2, 1), (3, 1)), (5, 2), True, True, True, False)
    >>> routes[0], routes[1], routes.rank((2, 1)), (1, 1, 2) in routes, (1, 2) in routes, (1, 1) in routes
    ((1, 1, 2), (2, 1), 1, True, False, False)
    >>> routes.through(near), routes.share(twos), routes.through(left), routes.beginning(()), routes.beginning((1,)), routes.beginning((3,)), Routes(near, right).through(left)
    (1, (1, 2), 2, 2, 1, 0, 0)
    >>> [Routes(from_left(factors), from_right(factors)).many for factors in (1, 2, 3, 4, 5, 6)], Routes(far, far)[0]
    ([1, 1, 1, 2, 9, 98], ())
    >>> routes[2]
    raises NoNumber(number=2)
    >>> routes.rank((1, 2))
    raises Gainsaid()
    >>> Routes(near, twos)
    raises NotBehind()
"""


def told(value):
    own = Fraction(value)
    return own.numerator, own.denominator


def some_pairs():
    return [pair for factors in range(1, 5) for pair in pairs_in_order(factors)] + pairs_in_order(5)[::3] + [
        (from_left(6), from_right(6)), (from_left(6), halved(1, 6)), (halved(1, 6), from_right(6))]


class ExamplesTest(unittest.TestCase):
    def test_examples_of_chapter_16(self):
        run_examples(self, EXAMPLES, {**vars(counted), "from_left": from_left, "from_right": from_right})


class ByTheDefinitionTest(unittest.TestCase):
    """Compares with all routes, which are listed."""

    def rows(self):
        for one, other in some_pairs():
            every = sorted(routes_between(one, other), key=joins_of)
            yield Routes(one, other), one, other, every, [joins_of(row) for row in every]

    def test_how_many_and_how_long(self):
        for routes, one, other, every, joins in self.rows():
            lengths = [len(row) for row in joins]
            self.assertEqual((routes.start, routes.end, routes.many), (one, other, len(every)))
            self.assertEqual(routes.lengths, tuple((own, lengths.count(own)) for own in sorted(set(lengths))))
            self.assertEqual(routes.average, told(Fraction(sum(lengths), len(lengths))))

    def test_through_share_and_sure(self):
        for routes, one, other, every, joins in self.rows():
            groupings = all_groupings(1, len(every[0]) and max(map(max, map(flat, every[0]))))
            for grouping in groupings:
                wanted = sum(grouping in row for row in every)
                self.assertEqual(routes.through(grouping), wanted)
                self.assertEqual(routes.share(grouping), told(Fraction(wanted, len(every))))
            self.assertEqual(routes.sure(), [grouping for grouping in every[0] if all(grouping in row for row in every)])

    def test_numbers(self):
        for routes, one, other, every, joins in self.rows():
            self.assertEqual([routes[number] for number in range(len(every))], joins)
            self.assertEqual([routes.rank(row) for row in joins], list(range(len(every))))
            for number in (-HUGE, -1, len(every), HUGE):
                check_raises(self, NoNumber(number), lambda: routes[number])

    def test_joins_and_beginnings(self):
        for routes, one, other, every, joins in self.rows():
            beginnings = {row[:many] for row in joins for many in range(len(row) + 1)}
            more = {row + (join,) for row in beginnings for join in (-1, 0, 1, 2, 3, 4, 5, 40, HUGE)}
            for row in beginnings | more:
                wanted = sum(own[:len(row)] == row for own in joins)
                self.assertEqual(routes.beginning(row), wanted)
                self.assertEqual(routes.beginning(joins=list(row)), wanted)
                self.assertIs(row in routes, row in joins)
                self.assertIs(list(row) in routes, row in joins)
                if row not in joins:
                    check_raises(self, Gainsaid(), lambda: routes.rank(row))
                    check_raises(self, Gainsaid(), lambda: routes.rank(joins=list(row)))


def flat(part):
    return [part] if isinstance(part, int) else flat(part[0]) + flat(part[1])


class EightFactorsTest(unittest.TestCase):
    def test_from_left_to_from_right(self):
        left, right = from_left(8), from_right(8)
        routes = Routes(left, right)
        self.assertEqual((Routes(from_left(7), from_right(7)).many, routes.many), (2981, 340549))
        self.assertEqual((routes.lengths[0][0], routes.lengths[-1][0]), (6, 21))
        self.assertEqual(sum(many for steps, many in routes.lengths), routes.many)
        whole = Fraction(sum(steps * many for steps, many in routes.lengths), routes.many)
        self.assertEqual(routes.average, told(whole))
        numbers = sorted({0, 1, 1000, routes.many // 2, routes.many - 2, routes.many - 1})
        found = [routes[number] for number in numbers]
        self.assertEqual(found, sorted(set(found)))
        for number, joins in zip(numbers, found):
            self.assertEqual(routes.rank(joins), number)
            self.assertIs(joins in routes, True)
            self.assertIs(is_route(left, right, tuple(by_joins(left, joins))), True)
        self.assertEqual(sum(routes.beginning((join,)) for join in range(-1, 10)), routes.many)
        self.assertEqual(routes.sure(), [left, right])

    def test_counts_go_together(self):
        for one, other in ((from_left(8), halved(1, 8)), (halved(1, 8), from_right(8)), (from_left(8), from_right(8))):
            routes, every = Routes(one, other), Between(one, other).every()
            self.assertEqual((routes.lengths[0][0], routes.lengths[-1][0]), (fewest_steps(one, other), most_steps(one, other)))
            counts = {}
            for grouping in sorted(every, key=lambda grouping: len(led_to(grouping))):
                counts[grouping] = 1 if grouping == other else sum(counts.get(behind, 0) for behind in nexts_of(grouping))
            self.assertEqual(routes.many, counts[one])
            for grouping in every[::17]:
                self.assertEqual(routes.through(grouping), Routes(one, grouping).many * Routes(grouping, other).many)
            # Each route has as many groupings as steps, and one more.
            self.assertEqual(sum(routes.through(grouping) for grouping in every),
                             sum((steps + 1) * many for steps, many in routes.lengths))

    def test_sure_ones_between(self):
        one, other = (((1, (2, 3)), 4), 5), (1, (2, ((3, 4), 5)))
        routes = Routes(one, other)
        every = routes_between(one, other)
        self.assertEqual(routes.sure(), [own for own in every[0] if all(own in row for row in every)])
        one, other = ((1, 2), (3, (4, 5))), (1, (2, (3, (4, 5))))
        self.assertEqual((Routes(one, other).sure(), Routes(one, other).many), ([one, other], 1))


class SameTest(unittest.TestCase):
    def test_same_start_and_end(self):
        pairs = [pair for factors in range(1, 5) for pair in pairs_in_order(factors)]
        every = [(pair, Routes(*pair)) for pair in pairs]
        for pair, routes in every:
            for others, other in every:
                self.assertIs(routes == other, pair == others)
                self.assertIs(routes != other, pair != others)

    def test_unlike_anything_of_another_class(self):
        routes = Routes(1, 1)
        for thing in odd_things() + [1, (), {}, object(), Routes, Between(1, 1)]:
            self.assertIs(routes == thing, False)
            self.assertIs(thing == routes, False)
            self.assertIs(routes != thing, True)


class EdgesTest(unittest.TestCase):
    def test_no_steps(self):
        for grouping in small_groupings(4) + [halved(1, 8)]:
            routes = Routes(grouping, grouping)
            self.assertEqual((routes.many, routes.lengths, routes.average, routes.sure()), (1, ((0, 1),), (0, 1), [grouping]))
            self.assertEqual((routes[0], routes.rank(()), routes.beginning(()), () in routes), ((), 0, 1, True))
            self.assertEqual((routes.beginning((1,)), (1,) in routes, routes.through(grouping)), (0, False, 1))
            check_raises(self, NoNumber(1), lambda: routes[1])
            check_raises(self, Gainsaid(), lambda: routes.rank((1,)))

    def test_unlike_then_not_behind(self):
        for one, other in ((1, (1, 2)), ((1, (2, 3)), (1, 2)), (from_right(8), from_left(7))):
            for near, far in ((one, other), (other, one), (as_lists(one), as_lists(other))):
                check_raises(self, Unlike(), lambda: Routes(near, far))
                check_raises(self, Unlike(), lambda: Routes(other=far, one=near))
        for factors in (3, 4):
            for one in all_groupings(1, factors):
                for other in all_groupings(1, factors):
                    if other not in led_to(one):
                        check_raises(self, NotBehind(), lambda: Routes(one, other))
        check_raises(self, NotBehind(), lambda: Routes(as_lists(from_right(8)), as_lists(from_left(8))))

    def test_through_and_share_of_other_numbers_of_factors(self):
        routes = Routes(from_left(4), from_right(4))
        for grouping in (1, (1, 2), from_left(3), from_right(5), from_left(8)):
            for handed in (grouping, as_lists(grouping)):
                check_raises(self, Unlike(), lambda: routes.through(handed))
                check_raises(self, Unlike(), lambda: routes.share(grouping=handed))

    def test_it_can_not_be_gone_through(self):
        for routes in (Routes(1, 1), Routes(from_left(4), from_right(4))):
            for action in (lambda: iter(routes), lambda: list(routes), lambda: [row for row in routes]):
                with self.assertRaises(TypeError):
                    action()

    def test_properties_have_no_setters(self):
        routes = Routes(from_left(4), from_right(4))
        for name in ("start", "end", "many", "lengths", "average"):
            own = getattr(routes, name)
            with self.assertRaises(AttributeError):
                setattr(routes, name, own)
            self.assertEqual(getattr(routes, name), own)


class GeneralRulesTest(unittest.TestCase):
    def test_lists_for_tuples_and_arguments_by_name(self):
        one, other = from_left(5), from_right(5)
        routes, between = Routes(one, other), listed_between(one, other)
        for change in (as_lists, lists_mixed_in):
            near, far = change(one), change(other)
            own = Routes(other=far, one=near)
            self.assertIs(own == routes, True)
            self.assertEqual((near, far), (change(one), change(other)))
            self.assertEqual(repr((own.start, own.end, own.lengths, own.average, own.sure())),
                             repr((one, other, routes.lengths, routes.average, routes.sure())))
            for grouping in between:
                self.assertEqual(own.through(grouping=change(grouping)), routes.through(grouping))
                self.assertEqual(repr(own.share(change(grouping))), repr(routes.share(grouping)))
            near.clear() if isinstance(near, list) else None
            self.assertIs(own == routes, True)

    def test_lists_are_new_and_hold_groupings(self):
        routes = Routes([[1, 2], 3], [1, [2, 3]])
        first = routes.sure()
        self.assertTrue(all(is_grouping(grouping) for grouping in first))
        first.clear()
        self.assertEqual(routes.sure(), [((1, 2), 3), (1, (2, 3))])

    def test_an_error_changes_nothing(self):
        routes, same = Routes(from_left(4), from_right(4)), Routes(from_left(4), from_right(4))
        for action in (lambda: routes[9], lambda: routes.rank((3,)), lambda: routes.through(1)):
            with self.assertRaises((LookupError, ValueError)):
                action()
        self.assertIs(routes == same, True)
        self.assertEqual((routes.many, routes[0], routes.lengths), (same.many, same[0], same.lengths))


if __name__ == "__main__":
    unittest.main()
