"""[2], [3], [12]: prices."""

import unittest
from fractions import Fraction
from math import prod

from regroups import prices as module
from regroups.brackets import greatest_having, least_having, parts_of
from regroups.counts import how_many
from regroups.errors import NoFactor, NoJoin, NoNumber, NotBehind, NotOpen, Unlike
from regroups.groupings import factors_in, from_left, from_right, is_grouping
from regroups.order import leads_to
from regroups.prices import Prices
from regroups.routes import is_route, most_steps, route
from tests.examples import check_raises, run_examples
from tests.samples import (
    all_groupings, as_lists, halved, large_groupings, large_pairs, led_to, lists_mixed_in, meant, nexts_of,
    pairs_in_order, pairs_of, place_of, routes_between, small_groupings, some_ends, steps_of,
)

EXAMPLES = """
    >>> left, near, twos, far, right = (((1, 2), 3), 4), ((1, (2, 3)), 4), ((1, 2), (3, 4)), (1, ((2, 3), 4)), (1, (2, (3, 4)))
    >>> tables = Prices(4, (6, 30, 300, 15, 5))
    >>> [tables.of(own) for own in (left, near, twos, far, right)], tables.change(left, 1), tables.change(left, 2), tables.least(), tables.greatest(), tables.mean()
    ([81450, 138150, 85500, 138150, 68400], 56700, 4050, 68400, 138150, (102330, 1))
    >>> tables.cheapest() == right, tables.how_many(), tables.least(None, twos), tables.least(near, far), tables.is_cheapest(left, None, twos), tables.is_cheapest(left)
    (True, 1, 81450, 138150, True, False)
    >>> tables.lowest_pass(left, right), tables.pass_route(left, right) == [left, twos, right], tables.falling_route(left, right), tables.falling_route(twos, right) == [twos, right], tables.falling_route(far, far) == [far]
    (85500, True, None, True, True)
    >>> heavy = Prices(4, weights=(1, 1, 1, 5))
    >>> [heavy.of(own) for own in (left, near, twos, far, right)], heavy.how_many(), heavy.cheapest(0) == near, heavy.cheapest(1) == left, heavy == Prices(4, (6, 30, 300, 15, 5)), heavy.sizes
    ([13, 13, 16, 17, 21], 2, True, True, False, None)
    >>> Prices(3, brackets=((1, 2, -1),)).of(((1, 2), 3)), Prices(3, brackets=((1, 2, -1), (1, 2, 1))) == Prices(3), Prices(1).least(), Prices(1, (2, 3)).cheapest()
    (-1, True, 0, 1)
    >>> tables.change(right, 1)
    raises NotOpen(join=1)
    >>> tables.cheapest(1)
    raises NoNumber(number=1)
    >>> Prices(3, (1, 2, 3))
    raises Unlike()
"""

HUGE = 10 ** 5000


def terms(factors, seed):
    """(sizes, weights, brackets) for so many factors, the same ones each time; small, so that many prices are equal."""
    sizes = tuple((at * at * 5 + at * seed + seed) % (2 + seed % 3) for at in range(factors + 1)) if seed % 3 != 1 else None
    weights = tuple((at * at + at * seed * 3 + seed) % (1 + seed % 3) for at in range(factors)) if seed % 4 != 2 else None
    brackets = []
    for at in range(seed % 5 if factors > 1 else 0):
        first = 1 + (seed + at * 3) % (factors - 1)
        last = first + 1 + (seed * at + at) % (factors - first)
        brackets.append((first, last, (seed * 7 + at * 11) % 5 - 2))
    return sizes, weights, tuple(brackets + brackets[:1])


def price_of(grouping, sizes, weights, brackets):
    """The price, straight from the definition."""
    found = 0
    for join, start, reach in pairs_of(grouping):
        if sizes is not None:
            found += sizes[start - 1] * sizes[join] * sizes[reach]
        if weights is not None:
            found += sum(weights[factor - 1] for factor in range(start, reach + 1))
        found += sum(price for first, last, price in brackets if (first, last) == (start, reach))
    return found


def fraction_of(part, whole):
    own = Fraction(part, whole)
    return own.numerator, own.denominator


def tried():
    """(factors, terms, Prices) to try."""
    return [(factors, terms(factors, seed), Prices(factors, *terms(factors, seed)))
            for factors in range(1, 6) for seed in range(8)]


class ExamplesTest(unittest.TestCase):
    def test_examples_of_chapter_11(self):
        run_examples(self, EXAMPLES, vars(module))


class PriceTest(unittest.TestCase):
    def test_of_and_change(self):
        for factors, given, prices in tried():
            for grouping in all_groupings(1, factors):
                self.assertEqual(prices.of(grouping), price_of(grouping, *given))
                for join, (behind, risen, goes, comes) in steps_of(grouping).items():
                    wanted = price_of(behind, *given) - price_of(grouping, *given)
                    self.assertEqual(prices.change(grouping, join), wanted)

    def test_large_ones(self):
        for at, grouping in enumerate(large_groupings()):
            given = terms(factors_in(grouping), at)
            prices = Prices(factors_in(grouping), *given)
            self.assertEqual(prices.of(grouping), price_of(grouping, *given))
            for join, row in steps_of(grouping).items():
                self.assertEqual(prices.change(grouping, join), prices.of(row[0]) - prices.of(grouping))

    def test_change_by_sizes_and_by_weights(self):
        for grouping in small_groupings(6):
            factors = factors_in(grouping)
            sizes, weights = tuple(range(3, factors + 4))[::-1], tuple(at * at + 1 for at in range(factors))
            by_sizes, by_weights = Prices(factors, sizes), Prices(factors, weights=weights)
            for join, (behind, risen, goes, comes) in steps_of(grouping).items():
                start, end = goes[0], comes[1]
                p, q, r, s = sizes[start - 1], sizes[join], sizes[risen], sizes[end]
                self.assertEqual(by_sizes.change(grouping, join), p * q * s + q * r * s - p * q * r - p * r * s)
                self.assertEqual(by_weights.change(grouping, join), sum(weights[risen:end]) - sum(weights[start - 1:join]))
            rising = Prices(factors, sizes[::-1])
            self.assertTrue(all(rising.change(grouping, join) >= 0 for join in steps_of(grouping)))

    def test_great_numbers(self):
        sizes, weights = (10 ** 20,) * 31, (10 ** 20,) * 30
        brackets = tuple((1, last, -10 ** 40) for last in range(2, 31))
        prices = Prices(30, sizes, weights, brackets)
        for grouping in (from_left(30), from_right(30), large_groupings()[-1]):
            self.assertEqual(prices.of(grouping), price_of(grouping, sizes, weights, brackets))
        self.assertEqual(prices.least(), prices.of(from_left(30)))
        self.assertEqual(prices.cheapest(), from_left(30))

    def test_terms_that_are_nought(self):
        for factors in range(1, 6):
            plain = Prices(factors)
            for grouping in all_groupings(1, factors):
                self.assertEqual(plain.of(grouping), 0)
            self.assertEqual((plain.least(), plain.greatest(), plain.mean()), (0, 0, (0, 1)))
            self.assertEqual(plain.how_many(), how_many(factors))


class BestTest(unittest.TestCase):
    """Compares with all that are meant, which are listed."""

    def rows(self):
        for factors, given, prices in tried():
            for low, high in some_ends(factors):
                every = meant(low, high, factors)
                yield prices, low, high, every, [price_of(grouping, *given) for grouping in every]

    def test_least_greatest_and_mean(self):
        for prices, low, high, every, costs in self.rows():
            self.assertEqual(prices.least(low, high), min(costs))
            self.assertEqual(prices.greatest(low, high), max(costs))
            self.assertEqual(prices.mean(low, high), fraction_of(sum(costs), len(costs)))
            self.assertEqual(prices.how_many(low, high), costs.count(min(costs)))

    def test_cheapest_in_its_order(self):
        several = 0
        for prices, low, high, every, costs in self.rows():
            best = sorted([grouping for grouping, cost in zip(every, costs) if cost == min(costs)], key=place_of)
            self.assertEqual([prices.cheapest(number, low, high) for number in range(len(best))], best)
            self.assertEqual(prices.cheapest(low=low, high=high), best[0])
            for number in (-HUGE, -1, len(best), len(best) + 1, HUGE):
                check_raises(self, NoNumber(number), lambda: prices.cheapest(number, low, high))
            several += len(best) > 2
        self.assertGreater(several, 40)

    def test_is_cheapest(self):
        for prices, low, high, every, costs in self.rows():
            best = [grouping for grouping, cost in zip(every, costs) if cost == min(costs)]
            for grouping in all_groupings(1, factors_in(every[0])):
                self.assertIs(prices.is_cheapest(grouping, low, high), grouping in best)

    def test_all_of_one_price_in_their_order(self):
        for factors in range(1, 8):
            plain = Prices(factors)
            wanted = sorted(all_groupings(1, factors), key=place_of)
            self.assertEqual([plain.cheapest(number) for number in range(len(wanted))], wanted)
            self.assertEqual((wanted[0], wanted[-1]), (from_right(factors), from_left(factors)))


class LargeOnesTest(unittest.TestCase):
    def test_between_two_that_are_a_few_steps_apart(self):
        done = 0
        for seed, (low, high) in enumerate(large_pairs()):
            if low == high or most_steps(low, high) > 8:
                continue
            done += 1
            factors, given = factors_in(low), terms(factors_in(low), seed)
            prices = Prices(factors, *given)
            every = between_by_steps(low, high)
            costs = [price_of(grouping, *given) for grouping in every]
            best = sorted([grouping for grouping, cost in zip(every, costs) if cost == min(costs)], key=place_of)
            self.assertEqual((prices.least(low, high), prices.greatest(low, high)), (min(costs), max(costs)))
            self.assertEqual(prices.mean(low, high), fraction_of(sum(costs), len(costs)))
            self.assertEqual([prices.cheapest(number, low, high) for number in range(prices.how_many(low, high))], best)
        self.assertGreater(done, 20)

    def test_all_of_thirty_factors(self):
        plain = Prices(30)
        many = how_many(30)
        self.assertEqual(plain.how_many(), many)
        places = [place_of(plain.cheapest(number)) for number in (0, 1, many // 3, many // 2, many - 2, many - 1)]
        self.assertEqual(places, sorted(places))
        self.assertEqual((plain.cheapest(), plain.cheapest(many - 1)), (from_right(30), from_left(30)))
        check_raises(self, NoNumber(many), lambda: plain.cheapest(many))
        falling = Prices(30, tuple(range(31, 0, -1)))
        rising = Prices(30, tuple(range(1, 32)))
        self.assertEqual((rising.cheapest(), falling.cheapest()), (from_left(30), from_right(30)))
        self.assertEqual((rising.how_many(), falling.how_many()), (1, 1))
        self.assertEqual(rising.least(), rising.of(from_left(30)))
        # The average cost of a pair by weights alone is told by how often each bracket comes up.
        weighed = Prices(30, weights=(1,) * 30)
        wanted = sum(how_many(length) * how_many(31 - length) * length * (31 - length) for length in range(2, 31))
        self.assertEqual(weighed.mean(), fraction_of(wanted, many))

    def test_least_and_greatest_are_turned_over(self):
        for seed in range(6):
            brackets = tuple((first, last, (first * 31 + last * 17 + seed) % 13 - 6)
                             for first in range(1, 30) for last in range(first + 1, 31))
            turned = tuple((first, last, -price) for first, last, price in brackets)
            prices, others = Prices(30, brackets=brackets), Prices(30, brackets=turned)
            self.assertEqual((prices.least(), prices.greatest()), (-others.greatest(), -others.least()))
            self.assertEqual(prices.of(prices.cheapest()), prices.least())
            self.assertTrue(prices.is_cheapest(prices.cheapest(prices.how_many() - 1)))
            part, whole = prices.mean()
            self.assertTrue(prices.least() * whole < part < prices.greatest() * whole)

    def test_thirty_factors_with_bounds(self):
        """Those that have given brackets are all between two, and each part is grouped by itself."""
        for seed, brackets in enumerate(WIDE_BRACKETS * 2):
            sizes, weights, _ = terms(30, seed)
            low, high = least_having(30, brackets), greatest_having(30, brackets)
            rows = [prices_of_part(parts, sizes, weights) for _, parts in parts_of(30, brackets)]
            prices = Prices(30, sizes, weights)
            self.assertEqual(prices.least(low, high), sum(min(row) for row in rows))
            self.assertEqual(prices.greatest(low, high), sum(max(row) for row in rows))
            means = [Fraction(sum(row), len(row)) for row in rows]
            self.assertEqual(prices.mean(low, high), (sum(means).numerator, sum(means).denominator))
            many = prices.how_many(low, high)
            self.assertEqual(many, prod(row.count(min(row)) for row in rows))
            numbers = sorted({0, many // 3, many // 2, many - 1})
            found = [prices.cheapest(number, low, high) for number in numbers]
            self.assertEqual([place_of(grouping) for grouping in found], sorted({place_of(each) for each in found}))
            for grouping in found:
                self.assertTrue(leads_to(low, grouping) and leads_to(grouping, high))
                self.assertEqual(price_of(grouping, sizes, weights, ()), prices.least(low, high))
                self.assertIs(prices.is_cheapest(grouping, low, high), True)
            check_raises(self, NoNumber(many), lambda: prices.cheapest(many, low, high))
            check_raises(self, NotBehind(), lambda: prices.mean(from_right(30), low))

    def test_thirty_factors_with_one_end_or_none(self):
        left, right = from_left(30), from_right(30)
        for seed in range(4):
            given = terms(30, seed)
            prices = Prices(30, *given)
            for tell in (prices.least, prices.greatest, prices.mean, prices.how_many, prices.cheapest):
                self.assertEqual(tell(low=left), tell())
                self.assertEqual(tell(high=right), tell())
                self.assertEqual(tell(low=left, high=right), tell())
            self.assertEqual(price_of(prices.cheapest(), *given), prices.least())
            for end in (halved(1, 30), large_groupings()[-1]):
                self.assertEqual(prices.least(end, end), price_of(end, *given))
                self.assertLessEqual(prices.least(), min(prices.least(end), prices.least(high=end)))
                self.assertGreaterEqual(prices.greatest(), max(prices.greatest(end), prices.greatest(high=end)))
                self.assertEqual(price_of(prices.cheapest(low=end), *given), prices.least(end))
                self.assertEqual(price_of(prices.cheapest(high=end), *given), prices.least(None, end))
        self.assertEqual(Prices(30).how_many(), 1002242216651368)
        self.assertEqual(Prices(30, weights=(0,) * 29 + (1,)).greatest(), 29)
        self.assertEqual(Prices(30, brackets=((1, 30, 2),)).mean(), (2, 1))


WIDE_BRACKETS = (
    ((1, 6), (7, 12), (13, 18), (19, 24), (25, 30)),
    ((1, 2), (1, 7), (1, 12), (13, 19), (14, 19), (20, 26), (20, 22), (24, 26), (27, 30)),
    ((2, 8), (9, 15), (2, 15), (16, 22), (23, 29), (1, 22), (3, 5)),
    ((1, 25), (1, 20), (1, 15), (1, 10), (1, 5)),
    ((26, 30), (21, 30), (16, 30), (11, 30), (6, 30)),
)


def prices_of_part(parts, sizes, weights):
    """What the pairs of one part cost, for each way to put together the stretches of which it consists."""
    if sizes is not None:
        sizes = (sizes[parts[0][0] - 1],) + tuple(sizes[last] for first, last in parts)
    if weights is not None:
        weights = tuple(sum(weights[first - 1:last]) for first, last in parts)
    return [price_of(grouping, sizes, weights, ()) for grouping in all_groupings(1, len(parts))]


def between_by_steps(low, high):
    """All between two, by going on step by step as far as they still lead to high."""
    found, edge = [low], [low]
    while edge:
        for behind in nexts_of(edge.pop()):
            if behind not in found and leads_to(behind, high):
                found.append(behind)
                edge.append(behind)
    return found


class RoutesTest(unittest.TestCase):
    """Compares with all routes, which are listed."""

    def rows(self):
        for factors, given, prices in tried():
            pairs = pairs_in_order(factors)
            for one, goal in pairs[::1 + len(pairs) // 30]:
                yield prices, one, goal, routes_between(one, goal)

    def test_lowest_pass(self):
        for prices, one, goal, every in self.rows():
            wanted = min(max(prices.of(grouping) for grouping in row) for row in every)
            self.assertEqual(prices.lowest_pass(one, goal), wanted)
            found = prices.pass_route(one, goal)
            self.assertIn(found, every)
            self.assertEqual(max(prices.of(grouping) for grouping in found), wanted)

    def test_falling_route(self):
        none = 0
        for prices, one, goal, every in self.rows():
            falling = [row for row in every
                       if all(prices.of(far) <= prices.of(near) for near, far in zip(row, row[1:]))]
            found = prices.falling_route(one, goal)
            if falling:
                self.assertIn(found, falling)
            else:
                self.assertIsNone(found)
                none += 1
        self.assertGreater(none, 20)

    def test_eight_factors(self):
        left, right = from_left(8), from_right(8)
        falling = Prices(8, tuple(range(9, 0, -1)))
        found = falling.falling_route(left, right)
        self.assertTrue(is_route(left, right, tuple(found)))
        self.assertEqual(falling.lowest_pass(left, right), falling.of(left))
        self.assertIsNone(Prices(8, tuple(range(1, 10))).falling_route(left, right))
        for seed in range(5):
            prices = Prices(8, *terms(8, seed))
            row = prices.pass_route(left, right)
            self.assertTrue(is_route(left, right, tuple(row)))
            height = prices.lowest_pass(left, right)
            self.assertEqual(max(prices.of(grouping) for grouping in row), height)
            self.assertEqual(height, lowest_by_trying(prices, left, right))

    def test_eight_factors_of_all_sorts(self):
        left, right, mid = from_left(8), from_right(8), halved(1, 8)
        none = 0
        for seed, (one, goal) in enumerate([(left, right), (left, mid), (mid, right), (mid, mid)] * 4):
            prices = Prices(8, *terms(8, seed))
            row = prices.pass_route(one, goal)
            self.assertTrue(is_route(one, goal, tuple(row)))
            height = prices.lowest_pass(one, goal)
            self.assertEqual(max(price_of(grouping, *terms(8, seed)) for grouping in row), height)
            self.assertEqual(height, lowest_by_trying(prices, one, goal))
            falling = prices.falling_route(one, goal)
            self.assertIs(falling is not None, goal in fallen_to(prices, one))
            if falling is None:
                none += 1
                continue
            self.assertTrue(is_route(one, goal, tuple(falling)))
            for near, far in zip(falling, falling[1:]):
                self.assertLessEqual(prices.of(far), prices.of(near))
        self.assertTrue(3 <= none <= 12)
        prices = Prices(8)
        for tell in (prices.lowest_pass, prices.pass_route, prices.falling_route):
            check_raises(self, NotBehind(), lambda: tell(right, left))
            check_raises(self, NotBehind(), lambda: tell(mid, left))
            check_raises(self, Unlike(), lambda: tell(from_right(9), left))
            check_raises(self, Unlike(), lambda: tell(right, from_left(7)))

    def test_equal_ones(self):
        for grouping in small_groupings(5):
            prices = Prices(factors_in(grouping), *terms(factors_in(grouping), 3))
            self.assertEqual(prices.lowest_pass(grouping, grouping), prices.of(grouping))
            self.assertEqual(prices.pass_route(grouping, grouping), [grouping])
            self.assertEqual(prices.falling_route(grouping, grouping), [grouping])


def fallen_to(prices, one):
    """All that come of one by steps that make it no dearer."""
    found, edge = {one}, [one]
    while edge:
        ahead = edge.pop()
        for behind in nexts_of(ahead):
            if behind not in found and prices.of(behind) <= prices.of(ahead):
                found.add(behind)
                edge.append(behind)
    return found


def lowest_by_trying(prices, one, goal):
    """The lowest pass, by trying each price as a bound."""
    for bound in sorted({prices.of(grouping) for grouping in all_groupings(1, factors_in(one))}):
        if prices.of(one) > bound:
            continue
        found, edge = {one}, [one]
        while edge:
            for behind in nexts_of(edge.pop()):
                if behind not in found and prices.of(behind) <= bound:
                    found.add(behind)
                    edge.append(behind)
        if goal in found:
            return bound
    return None


class SameTest(unittest.TestCase):
    def test_same_costs(self):
        plain = Prices(3)
        for other in (Prices(3, (0, 0, 0, 0)), Prices(3, weights=(0, 0, 0)), Prices(3, brackets=((1, 2, 0),)),
                      Prices(3, (0, 5, 0, 7)), Prices(3, (0, 0, 5, 5)), Prices(3, (1, 0, 0, 1), (0, 0, 0), ())):
            self.assertIs(plain == other, True)
            self.assertIs(other == plain, True)
            self.assertIs(plain != other, False)
        self.assertIs(Prices(2, (2, 3, 4)) == Prices(2, (4, 3, 2)), True)
        self.assertIs(Prices(2, (2, 3, 4)) == Prices(2, weights=(20, 4)), True)
        self.assertIs(Prices(2, (2, 3, 4)) == Prices(2, brackets=((1, 2, 20), (1, 2, 4))), True)
        self.assertIs(Prices(1, (5, 6), (7,)) == Prices(1), True)

    def test_unlike_costs(self):
        plain = Prices(3)
        for other in (Prices(2), Prices(4), Prices(1), Prices(3, (1, 1, 1, 1)), Prices(3, weights=(0, 0, 1)),
                      Prices(3, (0, 0, 1, 0), (1, 0, 0)), Prices(3, brackets=((1, 3, 1),)),
                      Prices(3, brackets=((2, 3, -1),)), Prices(3, (0, 1, 1, 1))):
            self.assertIs(plain == other, False)
            self.assertIs(plain != other, True)
        self.assertIs(Prices(1) == Prices(2), False)
        # The join counts, too: both cost the same where the whole has the same join.
        self.assertIs(Prices(3, (1, 1, 2, 1)) == Prices(3, (1, 2, 1, 1)), False)

    def test_by_the_definition(self):
        every = [row for row in tried() if row[0] in (2, 3)]
        for factors, given, prices in every:
            for others, other_given, other in every:
                wanted = factors == others and all(
                    pair_price(start, join, reach, *given) == pair_price(start, join, reach, *other_given)
                    for start in range(1, factors) for reach in range(start + 1, factors + 1)
                    for join in range(start, reach))
                self.assertIs(prices == other, wanted)

    def test_unlike_anything_of_another_class(self):
        prices = Prices(2)
        for thing in (None, 0, 2, True, "", (), [], (1, 2), {}, object(), Prices, Unlike()):
            self.assertIs(prices == thing, False)
            self.assertIs(thing == prices, False)
            self.assertIs(prices != thing, True)


def pair_price(start, join, reach, sizes, weights, brackets):
    found = sum(price for first, last, price in brackets if (first, last) == (start, reach))
    if sizes is not None:
        found += sizes[start - 1] * sizes[join] * sizes[reach]
    if weights is not None:
        found += sum(weights[start - 1:reach])
    return found


class ErrorsTest(unittest.TestCase):
    def test_not_so_many_sizes_or_weights(self):
        for factors in (1, 2, 3, 30):
            for many in (0, 1, factors - 1, factors, factors + 1, factors + 2):
                for kind in (tuple, list):
                    sizes, weights = kind([1] * many), kind([1] * many)
                    if many != factors + 1:
                        check_raises(self, Unlike(), lambda: Prices(factors, sizes))
                        check_raises(self, Unlike(), lambda: Prices(factors, sizes, (1,) * factors, ((0, 99, 1),)))
                    if many != factors:
                        check_raises(self, Unlike(), lambda: Prices(factors, weights=weights))
                        check_raises(self, Unlike(), lambda: Prices(factors, (1,) * (factors + 1), weights, ((0, 2, 1),)))

    def test_the_first_end_that_is_no_factor(self):
        for brackets, factor in (
                (((0, 2, 1),), 0), (((1, 5, 1),), 5), (((-3, 9, 1),), -3), (((1, 2, 9), (2, 7, 1), (0, 1, 1)), 7),
                (((1, 4, 1), (1, 4, 1), (5, 6, -1)), 5), (((-HUGE, HUGE, 0),), -HUGE), (((2, HUGE, 0),), HUGE)):
            check_raises(self, NoFactor(factor), lambda: Prices(4, brackets=brackets))
            check_raises(self, NoFactor(factor), lambda: Prices(4, [1] * 5, [1] * 4, as_lists(brackets)))
        check_raises(self, NoFactor(2), lambda: Prices(1, brackets=((1, 2, 0),)))

    def test_of_and_change(self):
        prices = Prices(4, (6, 30, 300, 15, 5))
        for grouping in (1, (1, 2), ((1, 2), 3), from_left(5), from_right(30)):
            check_raises(self, Unlike(), lambda: prices.of(grouping))
            for join in (-1, 0, 1, 2, 4, 40):
                check_raises(self, Unlike(), lambda: prices.change(grouping, join))
                check_raises(self, Unlike(), lambda: prices.change(as_lists(grouping), join=join))
        for grouping in all_groupings(1, 4):
            for join in (-HUGE, -1, 0, 4, 5, HUGE):
                check_raises(self, NoJoin(join), lambda: prices.change(grouping, join))
            for join in (1, 2, 3):
                if join not in steps_of(grouping):
                    check_raises(self, NotOpen(join), lambda: prices.change(as_lists(grouping), join))
        check_raises(self, NoJoin(1), lambda: Prices(1).change(1, 1))

    def test_unlike_ends(self):
        prices = Prices(4)
        left, right = from_left(4), from_right(4)
        for other in (1, (1, 2), from_right(3), from_left(5), from_left(30)):
            for handed in (other, as_lists(other)):
                for low, high in ((handed, None), (None, handed), (handed, handed), (handed, right), (right, handed),
                                  (left, handed), (handed, left)):
                    self.check_all(prices, Unlike(), low, high)
                for one, goal in ((handed, right), (right, handed), (handed, handed), (left, handed), (handed, left)):
                    for tell in (prices.lowest_pass, prices.pass_route, prices.falling_route):
                        check_raises(self, Unlike(), lambda: tell(one, goal))
                        check_raises(self, Unlike(), lambda: tell(goal=goal, one=one))

    def test_nothing_is_meant(self):
        for factors in (3, 4):
            prices = Prices(factors, *terms(factors, 3))
            for low in all_groupings(1, factors):
                for high in all_groupings(1, factors):
                    if high in led_to(low):
                        continue
                    self.check_all(prices, NotBehind(), low, high)
                    for tell in (prices.lowest_pass, prices.pass_route, prices.falling_route):
                        check_raises(self, NotBehind(), lambda: tell(low, high))
        self.check_all(Prices(30), NotBehind(), from_right(30), from_left(30))

    def check_all(self, prices, wanted, low, high):
        for tell in (prices.least, prices.greatest, prices.mean, prices.how_many):
            check_raises(self, wanted, lambda: tell(low, high))
            check_raises(self, wanted, lambda: tell(high=high, low=low))
        for number in (0, 1, -1, HUGE):
            check_raises(self, wanted, lambda: prices.cheapest(number, low, high))
            check_raises(self, wanted, lambda: prices.cheapest(number, high=high, low=low))
        for thing in (None, 1, low, high):
            check_raises(self, wanted, lambda: prices.is_cheapest(thing, low, high))

    def test_is_cheapest_of_other_things(self):
        deep = 1
        for _ in range(38):
            deep = (deep, deep)
        plain, one = Prices(3), Prices(1)
        for thing in (None, True, False, 0, 1, HUGE, "", "ab", [], (), [[1, 2], 3], ([1, 2], 3), (1, [2, 3]), (1, 2),
                      (1, 2, 3), ((1, 2), True), ((True, 2), 3), ((1, 2), 4), (1, (2, (3, 4))), deep, plain, Unlike(),
                      NoJoin(1), halved(1, 3000), (1,) * 100000, (1, (2, HUGE))):
            self.assertIs(plain.is_cheapest(thing), False)
            self.assertIs(plain.is_cheapest(thing=thing, high=from_right(3), low=None), False)
            self.assertIs(one.is_cheapest(thing), thing is not True and thing == 1)
        for grouping in all_groupings(1, 3):
            self.assertIs(plain.is_cheapest(grouping), True)


class EdgesTest(unittest.TestCase):
    def test_one_factor(self):
        for prices in (Prices(1), Prices(1, (2, 3)), Prices(1, (0, 0), (7,)), Prices(1, weights=(9,))):
            self.assertEqual((prices.of(1), prices.least(), prices.greatest(), prices.mean()), (0, 0, 0, (0, 1)))
            self.assertEqual((prices.how_many(), prices.cheapest(), prices.is_cheapest(1)), (1, 1, True))
            self.assertEqual((prices.least(1, 1), prices.cheapest(0, 1, None), prices.how_many(None, 1)), (0, 1, 1))
            self.assertEqual((prices.lowest_pass(1, 1), prices.pass_route(1, 1), prices.falling_route(1, 1)), (0, [1], [1]))
            check_raises(self, NoNumber(1), lambda: prices.cheapest(1))

    def test_properties(self):
        prices = Prices(3, [1, 2, 3, 4], [5, 6, 7], [[1, 2, 3]])
        self.assertEqual((prices.factors, prices.sizes, prices.weights), (3, (1, 2, 3, 4), (5, 6, 7)))
        self.assertEqual((Prices(3).factors, Prices(3).sizes, Prices(3).weights), (3, None, None))
        self.assertEqual((Prices(3, None, (0, 0, 0)).sizes, Prices(3, None, (0, 0, 0)).weights), (None, (0, 0, 0)))
        for name in ("factors", "sizes", "weights"):
            told = getattr(prices, name)
            with self.assertRaises(AttributeError):
                setattr(prices, name, told)
            self.assertEqual(getattr(prices, name), told)

    def test_none_is_all(self):
        for factors, given, prices in tried():
            left, right = from_left(factors), from_right(factors)
            for tell in (prices.least, prices.greatest, prices.mean, prices.how_many):
                self.assertEqual(tell(), tell(None, None))
                self.assertEqual(tell(), tell(left, right))
                self.assertEqual(tell(right), tell(right, None))
                self.assertEqual(tell(None, left), tell(left, left))
            self.assertEqual(prices.cheapest(), prices.cheapest(0, left, right))

    def test_ends_that_are_equal(self):
        for grouping in small_groupings(5) + large_groupings()[::9]:
            prices = Prices(factors_in(grouping), *terms(factors_in(grouping), 3))
            own = prices.of(grouping)
            self.assertEqual((prices.least(grouping, grouping), prices.greatest(grouping, grouping)), (own, own))
            self.assertEqual((prices.mean(grouping, grouping), prices.how_many(grouping, grouping)), ((own, 1), 1))
            self.assertEqual(prices.cheapest(0, grouping, grouping), grouping)
            self.assertIs(prices.is_cheapest(grouping, grouping, grouping), True)

    def test_mean_is_in_lowest_terms(self):
        self.assertEqual(Prices(3, brackets=((1, 2, -3),)).mean(), (-3, 2))
        self.assertEqual(Prices(3, brackets=((1, 2, -4),)).mean(), (-2, 1))
        self.assertEqual(Prices(3, brackets=((1, 2, -4), (2, 3, 4))).mean(), (0, 1))
        self.assertEqual(Prices(4, brackets=((1, 2, 10),)).mean(), (4, 1))


class GeneralRulesTest(unittest.TestCase):
    def test_lists_for_tuples_and_arguments_by_name(self):
        for factors, (sizes, weights, brackets), prices in tried():
            low, high = from_left(factors), from_right(factors)
            for change in (as_lists, lists_mixed_in):
                handed = change(sizes), change(weights), change(brackets)
                other = Prices(brackets=handed[2], weights=handed[1], sizes=handed[0], factors=factors)
                self.assertEqual(handed, (change(sizes), change(weights), change(brackets)))
                self.assertIs(other == prices, True)
                self.assertEqual(repr((other.sizes, other.weights)), repr((sizes, weights)))
                near, far = change(low), change(high)
                self.assertEqual(other.of(grouping=near), prices.of(low))
                for tell in ("least", "greatest", "mean", "how_many"):
                    self.assertEqual(getattr(other, tell)(high=far, low=near), getattr(prices, tell)())
                last = prices.how_many() - 1
                self.assertEqual(repr(other.cheapest(high=far, low=near, number=last)), repr(prices.cheapest(last)))
                self.assertIs(other.is_cheapest(thing=prices.cheapest(), low=near, high=far), True)
                for tell in ("lowest_pass", "pass_route", "falling_route"):
                    self.assertEqual(repr(getattr(other, tell)(goal=far, one=near)), repr(getattr(prices, tell)(low, high)))
                if factors > 2:
                    self.assertEqual(other.change(join=1, grouping=near), prices.change(low, 1))
                self.assertEqual((near, far), (change(low), change(high)))

    def test_arguments_are_copied(self):
        sizes, weights, brackets = [1, 2, 3, 4], [5, 6, 7], [[1, 2, 3]]
        prices, same = Prices(3, sizes, weights, brackets), Prices(3, (1, 2, 3, 4), (5, 6, 7), ((1, 2, 3),))
        sizes[1] = 9
        weights.clear()
        brackets[0][2] = 100
        brackets.append([2, 3, 1])
        self.assertIs(prices == same, True)
        self.assertEqual((prices.sizes, prices.weights, prices.least()), ((1, 2, 3, 4), (5, 6, 7), same.least()))

    def test_lists_are_new_and_hold_groupings(self):
        prices = Prices(4, (6, 30, 300, 15, 5))
        twos, right = [[1, 2], [3, 4]], [1, [2, [3, 4]]]
        for tell in (prices.pass_route, prices.falling_route):
            first = tell(twos, right)
            self.assertIs(type(first), list)
            self.assertTrue(all(is_grouping(grouping) for grouping in first))
            wanted = list(first)
            first.clear()
            self.assertEqual(tell(twos, right), wanted)
        self.assertIs(is_grouping(prices.cheapest(0, twos, right)), True)
        self.assertIs(type(prices.mean()), tuple)

    def test_an_error_changes_nothing(self):
        prices, same = Prices(4, (6, 30, 300, 15, 5)), Prices(4, (6, 30, 300, 15, 5))
        for action in (lambda: prices.of(1), lambda: prices.change(from_left(4), 9), lambda: prices.least(1),
                       lambda: prices.cheapest(5), lambda: prices.falling_route(from_right(4), from_left(4))):
            with self.assertRaises((LookupError, ValueError)):
                action()
        self.assertIs(prices == same, True)
        self.assertEqual((prices.least(), prices.sizes), (68400, (6, 30, 300, 15, 5)))


class RouteAgreesTest(unittest.TestCase):
    def test_where_all_is_nought_each_route_is_a_pass(self):
        for one, goal in pairs_in_order(5)[::5]:
            plain = Prices(5)
            self.assertEqual(plain.lowest_pass(one, goal), 0)
            for row in (plain.pass_route(one, goal), plain.falling_route(one, goal), route(one, goal)):
                self.assertTrue(is_route(one, goal, tuple(row)))


if __name__ == "__main__":
    unittest.main()
