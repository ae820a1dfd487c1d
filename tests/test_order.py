"""[2], [3], [6]: the order."""

import unittest
from itertools import product

from regroups import order
from regroups.errors import NotBehind, Unlike
from regroups.groupings import factors_in, from_left, from_right, is_grouping
from regroups.order import (
    first_ones, greatest_ahead, greatest_with, is_between, last_ones, leads_to, least_behind, least_with, stand_of,
    unlike_joins, why_not,
)
from regroups.steps import aheads, nexts
from tests.examples import check_raises, run_examples
from tests.samples import (
    all_groupings, as_lists, large_groupings, large_pairs, led_to, lists_mixed_in, pairs_in_order, reaches_of,
    small_groupings, starts_of,
)

EXAMPLES = """
    >>> left, right, twos = (((1, 2), 3), 4), (1, (2, (3, 4))), ((1, 2), (3, 4))
    >>> near, far = ((1, (2, 3)), 4), (1, ((2, 3), 4))
    >>> leads_to(left, twos), leads_to(near, twos), why_not(near, twos), why_not(twos, near), is_between(left, far, right), is_between(near, twos, right)
    (True, False, 1, 2, True, False)
    >>> stand_of(left, near), stand_of(near, left), stand_of(near, twos), stand_of(far, far), unlike_joins(near, twos)
    ('ahead', 'behind', 'apart', 'same', (1, 2))
    >>> greatest_ahead((near, twos)) == left, least_behind((near, twos)) == right, least_behind((left, near, far)) == far
    (True, True, True)
    >>> least_with(near, right), greatest_with(left, twos)
    (((1, 2), (3, 4)), (1, ((2, 3), 4)))
    >>> first_ones((near, left, twos, left)), last_ones((near, left, twos, left))
    ((1,), (0, 2))
    >>> least_with(near, twos)
    raises NotBehind()
    >>> leads_to((1, 2), 1)
    raises Unlike()
"""

TWO = (leads_to, why_not, stand_of, unlike_joins, least_with, greatest_with)
SOME = (greatest_ahead, least_behind, first_ones, last_ones)


def every_pair(most):
    for factors in range(1, most + 1):
        yield from product(all_groupings(1, factors), repeat=2)


def least_of(groupings):
    """The ones of these that lead to all of them."""
    return [one for one in groupings if all(other in led_to(one) for other in groupings)]


def greatest_of(groupings):
    """The ones of these to which all of them lead."""
    return [one for one in groupings if all(one in led_to(other) for other in groupings)]


def ahead_of_all(groupings):
    every = all_groupings(1, factors_in(groupings[0]))
    return greatest_of([one for one in every if all(grouping in led_to(one) for grouping in groupings)])


def behind_all(groupings):
    every = all_groupings(1, factors_in(groupings[0]))
    return least_of([one for one in every if all(one in led_to(grouping) for grouping in groupings)])


class ExamplesTest(unittest.TestCase):
    def test_examples_of_chapter_5(self):
        run_examples(self, EXAMPLES, vars(order))


class OrderTest(unittest.TestCase):
    def test_leads_to_is_to_come_of_it_by_steps(self):
        for one, other in every_pair(6):
            wanted = other in led_to(one)
            self.assertIs(leads_to(one, other), wanted)
            self.assertIs(wanted, all(near <= far for near, far in zip(reaches_of(one), reaches_of(other))))
            self.assertIs(wanted, all(near <= far for near, far in zip(starts_of(one), starts_of(other))))

    def test_why_not(self):
        for one, other in every_pair(6):
            lesser = [join for join, (near, far) in enumerate(zip(reaches_of(one), reaches_of(other)), start=1)
                      if far < near]
            self.assertEqual(why_not(one, other), lesser[0] if lesser else None)

    def test_is_between(self):
        for factors in range(1, 5):
            for low, grouping, high in product(all_groupings(1, factors), repeat=3):
                wanted = grouping in led_to(low) and high in led_to(grouping)
                self.assertIs(is_between(low, grouping, high), wanted)

    def test_stand_of(self):
        for one, other in every_pair(6):
            wanted = "apart"
            if one == other:
                wanted = "same"
            elif other in led_to(one):
                wanted = "ahead"
            elif one in led_to(other):
                wanted = "behind"
            self.assertEqual(stand_of(one, other), wanted)

    def test_unlike_joins(self):
        for one, other in every_pair(6):
            wanted = [join for join, (near, far) in enumerate(zip(reaches_of(one), reaches_of(other)), start=1)
                      if near != far]
            self.assertEqual(unlike_joins(one, other), tuple(wanted))

    def test_large_ones(self):
        for one, other in large_pairs():
            self.assertIs(leads_to(one, other), True)
            self.assertIs(leads_to(other, one), one == other)
            self.assertIsNone(why_not(one, other))
            self.assertEqual(stand_of(one, other), "same" if one == other else "ahead")
            self.assertEqual(stand_of(other, one), "same" if one == other else "behind")
            if one != other:
                joins = unlike_joins(one, other)
                self.assertEqual(why_not(other, one), joins[0])
                self.assertEqual([near == far for near, far in zip(reaches_of(one), reaches_of(other))],
                                 [join not in joins for join in range(1, factors_in(one))])
            left, right = from_left(factors_in(one)), from_right(factors_in(one))
            self.assertIs(is_between(left, one, right), True)
            self.assertIs(is_between(left, one, other), True)
            self.assertIs(is_between(one, other, right), True)
            self.assertIs(is_between(one, left, other), one == left)


class GreatestAndLeastTest(unittest.TestCase):
    def test_of_two(self):
        for one, other in every_pair(5):
            self.assertEqual([greatest_ahead((one, other))], ahead_of_all((one, other)))
            self.assertEqual([least_behind((one, other))], behind_all((one, other)))

    def test_of_one(self):
        for grouping in small_groupings(6) + large_groupings():
            self.assertEqual(greatest_ahead((grouping,)), grouping)
            self.assertEqual(least_behind((grouping,)), grouping)
            self.assertEqual(greatest_ahead((grouping, grouping)), grouping)
            self.assertEqual(least_behind((grouping, grouping)), grouping)

    def test_of_three_and_of_all(self):
        for factors in range(1, 5):
            every = all_groupings(1, factors)
            for some in product(every, repeat=3):
                self.assertEqual([greatest_ahead(some)], ahead_of_all(some))
                self.assertEqual([least_behind(some)], behind_all(some))
        for factors in range(1, 8):
            every = tuple(all_groupings(1, factors))
            self.assertEqual(greatest_ahead(every), from_left(factors))
            self.assertEqual(least_behind(every), from_right(factors))

    def test_reaches_and_starts_of_large_ones(self):
        every = large_groupings()
        for one, other in zip(every, every[1:]):
            if factors_in(one) != factors_in(other):
                continue
            ahead, behind = greatest_ahead((one, other)), least_behind((one, other))
            self.assertEqual(reaches_of(ahead), tuple(map(min, reaches_of(one), reaches_of(other))))
            self.assertEqual(starts_of(behind), tuple(map(max, starts_of(one), starts_of(other))))
            for grouping in (one, other):
                self.assertIs(leads_to(ahead, grouping), True)
                self.assertIs(leads_to(grouping, behind), True)


class WithTest(unittest.TestCase):
    def test_by_the_definition(self):
        for factors in range(1, 6):
            every = all_groupings(1, factors)
            for one, goal in pairs_in_order(factors):
                fit = [grouping for grouping in every if behind_all((one, grouping)) == [goal]]
                self.assertEqual([least_with(one, goal)], least_of(fit))
                fit = [grouping for grouping in every if ahead_of_all((goal, grouping)) == [one]]
                self.assertEqual([greatest_with(one, goal)], greatest_of(fit))

    def test_six_factors(self):
        every = all_groupings(1, 6)
        for one, goal in pairs_in_order(6)[::3]:
            fit = [grouping for grouping in every if least_behind((one, grouping)) == goal]
            self.assertEqual([least_with(one, goal)], least_of(fit))
            fit = [grouping for grouping in every if greatest_ahead((goal, grouping)) == one]
            self.assertEqual([greatest_with(one, goal)], greatest_of(fit))

    def test_large_ones(self):
        for one, goal in large_pairs():
            least, greatest = least_with(one, goal), greatest_with(one, goal)
            self.assertEqual(least_behind((one, least)), goal)
            self.assertEqual(greatest_ahead((goal, greatest)), one)
            # None that is one step ahead of the least one, or behind the greatest one, will do.
            for ahead in aheads(least):
                self.assertNotEqual(least_behind((one, ahead)), goal)
            for behind in nexts(greatest):
                self.assertNotEqual(greatest_ahead((goal, behind)), one)

    def test_equal_ones_and_ends(self):
        for grouping in small_groupings(5) + large_groupings():
            left, right = from_left(factors_in(grouping)), from_right(factors_in(grouping))
            self.assertEqual(least_with(grouping, grouping), left)
            self.assertEqual(greatest_with(grouping, grouping), right)
            self.assertEqual(least_with(left, grouping), grouping)
            self.assertEqual(greatest_with(grouping, right), grouping)


class OnesTest(unittest.TestCase):
    def check_ones(self, some):
        firsts = [at for at, grouping in enumerate(some) if grouping not in some[:at]]
        self.assertEqual(first_ones(some), tuple(
            at for at in firsts if not any(some[at] in led_to(other) for other in some if other != some[at])))
        self.assertEqual(last_ones(some), tuple(
            at for at in firsts if not any(other in led_to(some[at]) for other in some if other != some[at])))

    def test_by_the_definition(self):
        for factors in range(1, 5):
            every = all_groupings(1, factors)
            for many in (1, 2, 3, 4):
                for some in product(every, repeat=many):
                    self.check_ones(some)

    def test_many(self):
        for factors in range(1, 7):
            every = all_groupings(1, factors)
            for seed in range(40):
                self.check_ones(tuple(every[(seed * 7 + at * at * (seed + 3) + at) % len(every)] for at in range(12)))

    def test_large_ones(self):
        for grouping in large_groupings():
            left, right = from_left(factors_in(grouping)), from_right(factors_in(grouping))
            self.assertEqual(first_ones((right, grouping, left, grouping)), (1,) if grouping == left else (2,))
            self.assertEqual(last_ones((left, grouping, right, grouping)), (1,) if grouping == right else (2,))


class ErrorsTest(unittest.TestCase):
    def test_unlike_ahead_of_all_else(self):
        for one, other in ((1, (1, 2)), ((1, 2), 1), ((1, (2, 3)), (1, 2)), (from_right(30), from_left(29))):
            for tell in TWO:
                check_raises(self, Unlike(), lambda: tell(one, other))
                check_raises(self, Unlike(), lambda: tell(as_lists(one), as_lists(other)))
            for tell in SOME:
                for some in ((one, other), (one, one, other), (other, one, one), (one, other, one)):
                    check_raises(self, Unlike(), lambda: tell(some))
                    check_raises(self, Unlike(), lambda: tell(as_lists(some)))
            for three in ((one, one, other), (one, other, one), (other, one, one), (one, other, other)):
                check_raises(self, Unlike(), lambda: is_between(*three))
        for low, grouping, high in (((1, (2, 3)), ((1, 2), 3), (1, 2)), ((1, (2, 3)), (1, 2), ((1, 2), 3)),
                                    ((1, 2), (1, (2, 3)), ((1, 2), 3))):
            check_raises(self, Unlike(), lambda: is_between(low, grouping, high))

    def test_not_behind(self):
        for one, goal in every_pair(5):
            if goal not in led_to(one):
                for tell in (least_with, greatest_with):
                    check_raises(self, NotBehind(), lambda: tell(one, goal))
                    check_raises(self, NotBehind(), lambda: tell(one=as_lists(one), goal=as_lists(goal)))
        for factors in (8, 30):
            check_raises(self, NotBehind(), lambda: least_with(from_right(factors), from_left(factors)))
            check_raises(self, NotBehind(), lambda: greatest_with(from_right(factors), from_left(factors)))


class GeneralRulesTest(unittest.TestCase):
    def test_lists_for_tuples_and_arguments_by_name(self):
        pairs = [pair for factors in range(1, 5) for pair in pairs_in_order(factors)] + large_pairs()[::9]
        for one, other in pairs:
            for change in (as_lists, lists_mixed_in):
                near, far = change(one), change(other)
                for tell in TWO:
                    told = repr(tell(one, other))
                    self.assertEqual(repr(tell(near, far)), told)
                    self.assertEqual(repr(tell(one, far)), told)
                    if tell in (least_with, greatest_with):
                        self.assertEqual(repr(tell(goal=far, one=near)), told)
                    else:
                        self.assertEqual(repr(tell(other=far, one=near)), told)
                self.assertIs(is_between(high=far, low=near, grouping=far), True)
                for tell in SOME:
                    told = repr(tell((one, other, one)))
                    handed = [near, far, one]
                    self.assertEqual(repr(tell(handed)), told)
                    self.assertEqual(repr(tell(groupings=handed)), told)
                    self.assertEqual(handed, [change(one), change(other), one])
                self.assertEqual((near, far), (change(one), change(other)))

    def test_what_is_returned(self):
        for one, other in ((1, 1), ((1, 2), (1, 2)), (((1, 2), 3), (1, (2, 3)))):
            near, far = as_lists(one), as_lists(other)
            for made in (greatest_ahead([near, far]), greatest_ahead([near]), least_behind([near, far]),
                         least_behind([far]), least_with(near, far), greatest_with(near, far)):
                self.assertIs(is_grouping(made), True)
            for told in (unlike_joins(near, far), first_ones([near, far]), last_ones([near, far])):
                self.assertIs(type(told), tuple)


if __name__ == "__main__":
    unittest.main()
