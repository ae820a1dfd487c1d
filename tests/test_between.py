"""[2], [3], [8]: all groupings between two."""

import unittest
from fractions import Fraction

from regroups import between as module
from regroups.between import Between
from regroups.errors import NoJoin, NoNumber, NotBehind, TooMany, Unlike
from regroups.groupings import factors_in, from_left, from_right, is_grouping
from tests.examples import check_raises, run_examples
from tests.samples import (
    all_groupings, as_lists, large_groupings, large_pairs, led_to, listed_between, lists_mixed_in, nexts_of, pairs_of,
    pairs_in_order, reaches_of, small_groupings,
)

EXAMPLES = """
    >>> left, right = (((1, 2), 3), 4), (1, (2, (3, 4)))
    >>> between = Between(left, right)
    >>> between.many, between.steps, between.weight, between[1], between.number_of((1, ((2, 3), 4))), between.number_of((1, 2))
    (5, 5, 1, ((1, 2), (3, 4)), 3, None)
    >>> between.share(2, 3), between.share(1, 4), between.share(3, 2), between.how_many_have(2, 4), between.reaches_of(1), between.reaches_of(2), between.how_many_reach(1, 4)
    ((2, 5), (1, 1), (0, 1), 2, (2, 3, 4), (3, 4), 2)
    >>> some = Between(((1, (2, 3)), 4), right)
    >>> some.every(), some.steps, some.weight, some.share(2, 3), left in some, (1, 2) in some, some == Between(left, right), Between(1, 1).many
    ([((1, (2, 3)), 4), (1, ((2, 3), 4)), (1, (2, (3, 4)))], 2, 0, (2, 3), False, False, False, 1)
    >>> Between((1, (2, 3)), ((1, 2), 3))
    raises NotBehind()
    >>> between[5]
    raises NoNumber(number=5)
    >>> between.every(most=4)
    raises TooMany(most=4)
    >>> between.reaches_of(4)
    raises NoJoin(join=4)
"""

HUGE = 10 ** 5000
FAR = (-HUGE, -31, -1, 31, HUGE)


def small_pairs():
    return [pair for factors in range(1, 6) for pair in pairs_in_order(factors)] + pairs_in_order(6)[::5]


def spans_of(grouping):
    return [(start, reach) for join, start, reach in pairs_of(grouping)]


def fraction_of(part, whole):
    own = Fraction(part, whole)
    return own.numerator, own.denominator


def weights_from(low, every):
    """{grouping: weight of the pair (low, grouping)}, for all of these, which are those between two."""
    found = {}
    for grouping in every:
        nearer = [other for other in found if grouping in led_to(other)]
        found[grouping] = 1 if grouping == low else -sum(found[other] for other in nearer)
    return found


class ExamplesTest(unittest.TestCase):
    def test_examples_of_chapter_7(self):
        run_examples(self, EXAMPLES, vars(module))


class ListedTest(unittest.TestCase):
    """Compares with all between two, which are listed."""

    @classmethod
    def setUpClass(cls):
        cls.rows = [(low, high, listed_between(low, high), Between(low, high)) for low, high in small_pairs()]

    def test_ends_many_and_every(self):
        for low, high, every, between in self.rows:
            self.assertEqual((between.low, between.high), (low, high))
            self.assertEqual(between.many, len(every))
            self.assertEqual(between.every(), every)
            self.assertEqual(between.every(most=len(every)), every)
            for most in (len(every) - 1, 0, -1):
                check_raises(self, TooMany(most), lambda: between.every(most=most))

    def test_steps(self):
        for low, high, every, between in self.rows:
            self.assertEqual(between.steps, sum(behind in every for grouping in every for behind in nexts_of(grouping)))

    def test_weight(self):
        for low, high, every, between in self.rows:
            self.assertEqual(between.weight, weights_from(low, every)[high])

    def test_numbers(self):
        for low, high, every, between in self.rows:
            for number, grouping in enumerate(every):
                self.assertEqual(between[number], grouping)
                self.assertEqual(between.number_of(grouping), number)
            for number in FAR + (len(every), len(every) + 1):
                if not 0 <= number < len(every):
                    check_raises(self, NoNumber(number), lambda: between[number])

    def test_in(self):
        for low, high, every, between in self.rows:
            for grouping in all_groupings(1, factors_in(low)):
                self.assertIs(grouping in between, grouping in every)
                self.assertIs(grouping not in between, grouping not in every)
                if grouping not in every:
                    self.assertIsNone(between.number_of(grouping))
            for grouping in (1, (1, 2), ((1, 2), 3), from_left(7), from_right(30)):
                if grouping not in every:
                    self.assertIs(grouping in between, False)
                    self.assertIsNone(between.number_of(grouping))

    def test_brackets(self):
        for low, high, every, between in self.rows:
            for first in range(-1, factors_in(low) + 2):
                for last in range(-1, factors_in(low) + 2):
                    have = sum((first, last) in spans_of(grouping) for grouping in every)
                    self.assertEqual(between.how_many_have(first, last), have)
                    self.assertEqual(between.share(first, last), fraction_of(have, len(every)))
            for number in FAR:
                for first, last in ((1, number), (number, 2), (number, number)):
                    self.assertEqual(between.how_many_have(first, last), 0)
                    self.assertEqual(between.share(first, last), (0, 1))

    def test_reaches(self):
        for low, high, every, between in self.rows:
            factors = factors_in(low)
            for join in range(1, factors):
                had = [reaches_of(grouping)[join - 1] for grouping in every]
                self.assertEqual(between.reaches_of(join), tuple(sorted(set(had))))
                for goal in tuple(range(-1, factors + 2)) + FAR:
                    self.assertEqual(between.how_many_reach(join, goal), had.count(goal))
            for join in FAR + (0, factors, factors + 1):
                check_raises(self, NoJoin(join), lambda: between.reaches_of(join))
                for goal in (1, 2, factors, HUGE):
                    check_raises(self, NoJoin(join), lambda: between.how_many_reach(join, goal))

    def test_same(self):
        for low, high, every, between in self.rows[:90]:
            for other_low, other_high, other_every, other in self.rows[:90]:
                wanted = (low, high) == (other_low, other_high)
                self.assertIs(between == other, wanted)
                self.assertIs(between != other, not wanted)
            self.assertIs(between == Between(low, high), True)


class LargeOnesTest(unittest.TestCase):
    def pairs(self):
        every = [pair for pair in large_pairs() if pair[0] != pair[1]]
        ends = [(from_left(factors), from_right(factors)) for factors in (8, 17, 30)]
        above = [(grouping, from_right(factors_in(grouping))) for grouping in large_groupings()]
        below = [(from_left(factors_in(grouping)), grouping) for grouping in large_groupings()]
        return every[::4] + ends + above[::3] + below[::3]

    def test_numbers(self):
        for low, high in self.pairs():
            between = Between(low, high)
            many = between.many
            numbers = sorted({number for number in (0, 1, 2, many // 3, many // 2, many - 2, many - 1) if 0 <= number < many})
            rows = []
            for number in numbers:
                grouping = between[number]
                self.assertIs(is_grouping(grouping), True)
                self.assertIs(grouping in between, True)
                self.assertEqual(between.number_of(grouping), number)
                rows.append(reaches_of(grouping))
            self.assertEqual(rows, sorted(set(rows)))
            self.assertEqual((between[0], between[many - 1]), (low, high))
            check_raises(self, NoNumber(many), lambda: between[many])
            check_raises(self, NoNumber(-1), lambda: between[-1])

    def test_the_next_number_is_the_next_one(self):
        for low, high in self.pairs():
            between = Between(low, high)
            middle = between.many // 2
            for number in range(middle, min(middle + 5, between.many - 1)):
                near, far = reaches_of(between[number]), reaches_of(between[number + 1])
                self.assertLess(near, far)
                self.assertEqual(between.number_of(between[number + 1]), number + 1)

    def test_all_together(self):
        for low, high in self.pairs():
            between = Between(low, high)
            factors = factors_in(low)
            for join in (1, 2, factors // 2, factors - 1):
                goals = between.reaches_of(join)
                self.assertEqual((goals[0], goals[-1]), (reaches_of(low)[join - 1], reaches_of(high)[join - 1]))
                self.assertEqual(sum(between.how_many_reach(join, goal) for goal in goals), between.many)
            spans = [(first, last) for first in range(1, factors) for last in range(first + 1, factors + 1)]
            have = [between.how_many_have(*span) for span in spans]
            self.assertEqual(sum(have), between.many * (factors - 1))
            self.assertEqual(between.how_many_have(1, factors), between.many)
            self.assertEqual(between.share(1, factors), (1, 1))
            for span, count in list(zip(spans, have))[::11]:
                self.assertEqual(between.share(*span), fraction_of(count, between.many))

    def test_a_few_steps_apart(self):
        for low, high in large_pairs():
            if sum(reaches_of(high)) - sum(reaches_of(low)) > 12:
                continue
            found, edge = {low}, [low]
            while edge:
                near = edge.pop()
                for behind in nexts_of(near):
                    rows = reaches_of(behind)
                    if behind not in found and all(map(int.__le__, rows, reaches_of(high))):
                        found.add(behind)
                        edge.append(behind)
            every = sorted(found, key=reaches_of)
            between = Between(low, high)
            self.assertEqual(between.every(), every)
            self.assertEqual(between.steps, sum(behind in found for grouping in found for behind in nexts_of(grouping)))

    def test_all_groupings_of_thirty_factors(self):
        between = Between(from_left(30), from_right(30))
        self.assertEqual(between.many, 1002242216651368)
        self.assertEqual(between.steps, 28 * between.many // 2)
        self.assertEqual(between.weight, 1)
        self.assertEqual(Between(from_left(29), from_right(29)).weight, -1)
        self.assertEqual(between.how_many_have(1, 29), 263747951750360)
        self.assertEqual(between.how_many_have(7, 8), 263747951750360)
        check_raises(self, TooMany(2000), lambda: between.every())


class EdgesTest(unittest.TestCase):
    def test_one_factor(self):
        between = Between(1, 1)
        self.assertEqual((between.low, between.high, between.many, between.steps, between.weight), (1, 1, 1, 0, 1))
        self.assertEqual((between[0], between.number_of(1), between.every(), between.every(most=1)), (1, 0, [1], [1]))
        self.assertEqual((between.how_many_have(1, 1), between.share(1, 1), between.share(1, 2)), (0, (0, 1), (0, 1)))
        self.assertEqual((1 in between, (1, 2) in between), (True, False))
        check_raises(self, NoNumber(1), lambda: between[1])
        check_raises(self, NoJoin(1), lambda: between.reaches_of(1))
        check_raises(self, NoJoin(0), lambda: between.how_many_reach(0, 1))

    def test_two_equal_ones(self):
        for grouping in small_groupings(5) + large_groupings():
            between = Between(grouping, grouping)
            self.assertEqual((between.low, between.high), (grouping, grouping))
            self.assertEqual((between.many, between.steps, between.weight), (1, 0, 1))
            self.assertEqual((between.every(), between[0], between.number_of(grouping)), ([grouping], grouping, 0))
            for first, last in spans_of(grouping):
                self.assertEqual(between.share(first, last), (1, 1))

    def test_most_without_a_number(self):
        for factors, many in ((8, 429), (9, 1430)):
            between = Between(from_left(factors), from_right(factors))
            self.assertEqual(len(between.every()), many)
        between = Between(from_left(10), from_right(10))
        check_raises(self, TooMany(2000), lambda: between.every())
        every = between.every(most=4862)
        self.assertEqual((len(every), len(set(every))), (4862, 4862))
        self.assertEqual(every, sorted(every, key=reaches_of))


class WrongTest(unittest.TestCase):
    def test_unlike_ahead_of_not_behind(self):
        for one, other in ((1, (1, 2)), ((1, 2), 1), ((1, (2, 3)), (1, 2)), (from_right(30), from_left(29))):
            check_raises(self, Unlike(), lambda: Between(one, other))
            check_raises(self, Unlike(), lambda: Between(high=as_lists(other), low=as_lists(one)))

    def test_not_behind(self):
        for factors in range(1, 6):
            every = all_groupings(1, factors)
            for one in every:
                for other in every:
                    if other not in led_to(one):
                        check_raises(self, NotBehind(), lambda: Between(one, other))
        check_raises(self, NotBehind(), lambda: Between(from_right(30), from_left(30)))

    def test_can_not_be_gone_through(self):
        for between in (Between(1, 1), Between(from_left(4), from_right(4))):
            for go in (iter, list, tuple, set, sorted, reversed, enumerate, sum, len, lambda it: [x for x in it],
                       lambda it: [*it], lambda it: dict(it), lambda it: zip(it, it)):
                with self.assertRaises(TypeError):
                    go(between)
            with self.assertRaises(TypeError):
                for _ in between:
                    self.fail("gone through")

    def test_unlike_anything_of_another_class(self):
        between = Between((1, 2), (1, 2))
        for thing in (None, 0, 1, True, False, "", (), [], (1, 2), ((1, 2), (1, 2)), [(1, 2)], {}, NoJoin(1), Unlike(),
                      object(), Between, ((1, 2),)):
            self.assertIs(between == thing, False)
            self.assertIs(thing == between, False)
            self.assertIs(between != thing, True)

    def test_properties_have_no_setters(self):
        between = Between((1, 2), (1, 2))
        for name in ("low", "high", "many", "steps", "weight"):
            told = getattr(between, name)
            with self.assertRaises(AttributeError):
                setattr(between, name, told)
            self.assertEqual(getattr(between, name), told)

    def test_an_error_changes_nothing(self):
        between, same = Between(from_left(4), from_right(4)), Between(from_left(4), from_right(4))
        for action in (lambda: between[5], lambda: between.every(most=4), lambda: between.reaches_of(4),
                       lambda: between.how_many_reach(0, 1), lambda: list(between)):
            with self.assertRaises((LookupError, ValueError, TypeError)):
                action()
        self.assertEqual((between == same, between.many, between.every()), (True, 5, same.every()))


class GeneralRulesTest(unittest.TestCase):
    def test_lists_for_tuples_and_arguments_by_name(self):
        pairs = [pair for factors in range(1, 5) for pair in pairs_in_order(factors)] + large_pairs()[::9]
        for low, high in pairs:
            wanted = Between(low, high)
            for change in (as_lists, lists_mixed_in):
                near, far = change(low), change(high)
                between = Between(high=far, low=near)
                self.assertEqual((near, far), (change(low), change(high)))
                self.assertIs(between == wanted, True)
                self.assertEqual(repr((between.low, between.high)), repr((low, high)))
                self.assertEqual((between.many, between.steps, between.weight),
                                 (wanted.many, wanted.steps, wanted.weight))
                number = wanted.many // 2
                self.assertEqual(repr(between[number]), repr(wanted[number]))
                handed = change(wanted[number])
                self.assertIs(handed in between, True)
                self.assertEqual(between.number_of(handed), number)
                self.assertEqual(between.number_of(grouping=handed), number)
                self.assertEqual(handed, change(wanted[number]))
                self.assertEqual(between.how_many_have(last=2, first=1), wanted.how_many_have(1, 2))
                self.assertEqual(between.share(last=2, first=1), wanted.share(1, 2))
                for join in range(1, factors_in(low)):
                    self.assertEqual(between.reaches_of(join=join), wanted.reaches_of(join))
                    goal = wanted.reaches_of(join)[-1]
                    self.assertEqual(between.how_many_reach(goal=goal, join=join), wanted.how_many_reach(join, goal))

    def test_arguments_are_copied(self):
        low, high = as_lists(from_left(4)), as_lists(from_right(4))
        between = Between(low, high)
        low.clear()
        high.append(5)
        self.assertEqual((between.low, between.high, between.many), (from_left(4), from_right(4), 5))
        self.assertEqual(between.number_of(from_right(4)), 4)

    def test_lists_are_new(self):
        between = Between(from_left(4), from_right(4))
        first = between.every()
        self.assertIs(type(first), list)
        wanted = list(first)
        first.clear()
        self.assertEqual(between.every(), wanted)

    def test_kinds(self):
        between = Between(as_lists(from_left(4)), as_lists(from_right(4)))
        self.assertIs(type(between.reaches_of(1)), tuple)
        self.assertIs(type(between.share(1, 2)), tuple)
        for grouping in between.every() + [between.low, between.high, between[3]]:
            self.assertIs(is_grouping(grouping), True)
        for number in (between.many, between.steps, between.weight, between.how_many_have(1, 2),
                       between.how_many_have(2, 1), between.how_many_reach(1, 2), between.number_of(between[2])):
            self.assertIs(type(number), int)


if __name__ == "__main__":
    unittest.main()
