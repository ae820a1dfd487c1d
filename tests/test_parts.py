"""[2], [3], [10]: groupings taken apart and put together."""

import unittest
from itertools import combinations, product
from math import comb

from regroups import parts
from regroups.errors import NoFactor, NoJoin, NoNumber
from regroups.groupings import factors_in, from_left, from_right, is_grouping, mirrored
from regroups.order import leads_to
from regroups.parts import (
    bars_of, beside, follows, greatest_by, greatest_whole, grown, halves, how_many_wholes, least_by, least_whole,
    number_of_whole, only, put_in, whole_at, wishes_of, without,
)
from regroups.routes import fewest_steps, most_steps
from tests.examples import check_raises, run_examples
from tests.samples import (
    all_groupings, as_lists, factors_of, large_groupings, large_pairs, led_to, listed_between, lists_mixed_in,
    pairs_in_order, pairs_of, reaches_of, small_groupings, starts_of, steps_of,
)

EXAMPLES = """
    >>> fours, right = ((1, 2), (3, 4)), (1, (2, (3, 4)))
    >>> only(fours, (1, 3, 4)), only(fours, (2,)), without(fours, 3), put_in((1, 2), 2, (1, (2, 3))), put_in((1, 2), 1, ((1, 2), 3)), beside(1, (1, 2))
    ((1, (2, 3)), 1, ((1, 2), 3), (1, (2, (3, 4))), (((1, 2), 3), 4), (1, (2, 3)))
    >>> halves(fours, 2), halves(fours, 4), how_many_wholes((1, 2), (1, (2, 3))), least_whole((1, 2), (1, (2, 3))), greatest_whole((1, 2), (1, (2, 3)))
    (((1, 2), (1, (2, 3))), (((1, 2), (3, 4)), 1), 2, ((1, 2), (3, 4)), (1, (2, (3, 4))))
    >>> whole_at((1, 2), (1, (2, 3)), 1), number_of_whole(right, 2), number_of_whole(fours, 2), how_many_wholes(right, ((1, 2), 3)), whole_at(1, 1, 0)
    ((1, (2, (3, 4))), 1, 0, 10, 1)
    >>> grown((1, 2), 1), grown(1, 0), grown(((1, 2), 3), 2)
    ([((1, 2), 3), (1, (2, 3))], [(1, 2)], [(((1, 2), 3), 4), ((1, 2), (3, 4)), ((1, (2, 3)), 4)])
    >>> wishes_of(right), wishes_of(fours), wishes_of(((1, 2), 3)), bars_of(fours), bars_of(right), bars_of((((1, 2), 3), 4))
    (((1, 3), (2, 4)), ((2, 4),), (), ((2, 1),), (), ((2, 1), (3, 2)))
    >>> least_by(4, ((2, 4),)), least_by(4, ((1, 3), (2, 4))), least_by(5, ((1, 4),)), least_by(3, ()), greatest_by(4, ((2, 1),)), greatest_by(3, ())
    (((1, 2), (3, 4)), (1, (2, (3, 4))), ((1, ((2, 3), 4)), 5), ((1, 2), 3), ((1, 2), (3, 4)), (1, (2, 3)))
    >>> follows(4, ((1, 3), (2, 4)), (1, 4)), follows(4, ((1, 3),), (1, 4)), follows(4, (), (2, 3))
    (True, False, True)
    >>> only(fours, (1, 5))
    raises NoFactor(factor=5)
    >>> least_by(4, ((1, 2), (4, 9)))
    raises NoJoin(join=4)
    >>> whole_at((1, 2), (1, (2, 3)), 2)
    raises NoNumber(number=2)
"""

HUGE = 10 ** 5000
FAR = (-HUGE, -31, -1, 0, 31, HUGE)


def kept(part, factors):
    """The part with these factors alone, which keep their numbers; None if there are none."""
    if isinstance(part, int):
        return part if part in factors else None
    left, right = kept(part[0], factors), kept(part[1], factors)
    if left is None or right is None:
        return right if left is None else left
    return left, right


def renumbered(part):
    """The grouping with its factors called 1, 2 and so on."""
    numbers = {factor: number for number, factor in enumerate(factors_of(part), start=1)}
    return replaced(part, numbers)


def replaced(part, places):
    """The part with what stands for each factor in its place."""
    if isinstance(part, int):
        return places[part]
    return replaced(part[0], places), replaced(part[1], places)


def shifted(part, by):
    return replaced(part, {factor: factor + by for factor in factors_of(part)})


def only_of(grouping, factors):
    return renumbered(kept(grouping, factors))


def put_in_of(grouping, factor, other):
    places = {own: own * 1000 for own in factors_of(grouping)}
    places[factor] = shifted(other, factor * 1000)
    return renumbered(replaced(grouping, places))


def subsets(factors):
    every = range(1, factors + 1)
    return [some for size in range(1, factors + 1) for some in combinations(every, size)]


def some_subsets(factors):
    return [tuple(factor for factor in range(1, factors + 1) if (factor * seed + factor // 3) % 7 < 4 or factor == seed)
            for seed in range(1, 6)]


def wholes_of(one, other):
    near, far = factors_in(one), factors_in(other)
    every = range(1, near + far)
    found = [grouping for grouping in all_groupings(1, near + far - 1)
             if only_of(grouping, every[:near]) == one and only_of(grouping, every[near - 1:]) == other]
    return sorted(found, key=reaches_of)


def meets(grouping, wishes):
    return all(reaches_of(grouping)[join - 1] >= goal for join, goal in wishes)


def keeps(grouping, bars):
    return all(starts_of(grouping)[join - 1] <= goal for join, goal in bars)


def pairs_for(factors):
    return list(product(range(1, factors), range(1, factors + 1)))


def some_pairs_for(factors):
    """Sets of pairs (join, goal), many for few factors."""
    pairs = pairs_for(factors)
    found = [()] + [(pair,) for pair in pairs]
    if factors <= 5:
        found += list(product(pairs, repeat=2))
    for seed in range(1, 60 if pairs else 0):
        found.append(tuple(pairs[(seed * 13 + at * at * (seed + 1) + at * 5) % len(pairs)] for at in range(1 + seed % 5)))
    return found


class ExamplesTest(unittest.TestCase):
    def test_examples_of_chapter_9(self):
        run_examples(self, EXAMPLES, vars(parts))


class OnlyTest(unittest.TestCase):
    def test_by_the_definition(self):
        for grouping in small_groupings(6):
            for factors in subsets(factors_in(grouping)):
                self.assertEqual(only(grouping, factors), only_of(grouping, factors))
            if grouping != 1:
                for factor in factors_of(grouping):
                    rest = [other for other in factors_of(grouping) if other != factor]
                    self.assertEqual(without(grouping, factor), only_of(grouping, rest))

    def test_large_ones(self):
        for grouping in large_groupings():
            factors = factors_in(grouping)
            for some in some_subsets(factors) + [(1, factors), (factors,), tuple(range(1, factors + 1))]:
                self.assertEqual(only(grouping, some), only_of(grouping, some))
            for factor in (1, factors // 2, factors):
                rest = [other for other in factors_of(grouping) if other != factor]
                self.assertEqual(without(grouping, factor), only_of(grouping, rest))

    def test_all_and_one(self):
        for grouping in small_groupings(6) + large_groupings():
            factors = factors_of(grouping)
            self.assertEqual(only(grouping, tuple(factors)), grouping)
            for factor in factors:
                self.assertEqual(only(grouping, (factor,)), 1)
        self.assertEqual((without((1, 2), 1), without((1, 2), 2), only(1, (1,))), (1, 1, 1))

    def test_the_order_is_kept_in_no_more_steps(self):
        for one, other in [pair for factors in range(1, 6) for pair in pairs_in_order(factors)]:
            for factors in subsets(factors_in(one)):
                near, far = only(one, factors), only(other, factors)
                self.assertTrue(leads_to(near, far))
                self.assertLessEqual(fewest_steps(near, far), fewest_steps(one, other))
                self.assertLessEqual(most_steps(near, far), most_steps(one, other))


class PutInTest(unittest.TestCase):
    def test_by_the_definition(self):
        for grouping in small_groupings(5):
            for other in small_groupings(4):
                for factor in factors_of(grouping):
                    self.assertEqual(put_in(grouping, factor, other), put_in_of(grouping, factor, other))
                self.assertEqual(beside(grouping, other), (grouping, shifted(other, factors_in(grouping))))

    def test_large_ones(self):
        every = [grouping for grouping in large_groupings() if factors_in(grouping) < 18]
        for grouping, other in zip(every, every[::-1]):
            for factor in (1, 2, factors_in(grouping) // 2, factors_in(grouping)):
                self.assertEqual(put_in(grouping, factor, other), put_in_of(grouping, factor, other))
            self.assertEqual(beside(grouping, other), (grouping, shifted(other, factors_in(grouping))))
        thirty = large_groupings()[-1]
        self.assertEqual(beside(thirty, thirty), (thirty, shifted(thirty, 30)))

    def test_one_factor(self):
        for grouping in small_groupings(5):
            self.assertEqual(put_in(1, 1, grouping), grouping)
            for factor in factors_of(grouping):
                self.assertEqual(put_in(grouping, factor, 1), grouping)
        self.assertEqual(beside(1, 1), (1, 2))

    def test_the_order_is_kept(self):
        for factors in range(1, 5):
            every = all_groupings(1, factors)
            for one, other in product(every, repeat=2):
                wanted = other in led_to(one)
                for third in small_groupings(3):
                    self.assertIs(leads_to(beside(one, third), beside(other, third)), wanted)
                    self.assertIs(leads_to(beside(third, one), beside(third, other)), wanted)
                    for factor in factors_of(third):
                        self.assertIs(leads_to(put_in(third, factor, one), put_in(third, factor, other)), wanted)
                    for factor in range(1, factors + 1):
                        self.assertIs(leads_to(put_in(one, factor, third), put_in(other, factor, third)), wanted)


class HalvesAndWholesTest(unittest.TestCase):
    def test_halves(self):
        for grouping in small_groupings(6) + large_groupings():
            every = factors_of(grouping)
            for factor in every:
                wanted = only_of(grouping, every[:factor]), only_of(grouping, every[factor - 1:])
                self.assertEqual(halves(grouping, factor), wanted)

    def test_wholes_by_the_definition(self):
        pairs = list(product(small_groupings(4), repeat=2))
        pairs += [pair for one in all_groupings(1, 5) for two in small_groupings(2) for pair in ((one, two), (two, one))]
        for one, other in pairs:
            wanted = wholes_of(one, other)
            to_the_last = reaches_of(one).count(factors_in(one))
            self.assertEqual(how_many_wholes(one, other), len(wanted))
            self.assertEqual(len(wanted), comb(to_the_last + starts_of(other).count(1), to_the_last))
            self.assertEqual((least_whole(one, other), greatest_whole(one, other)), (wanted[0], wanted[-1]))
            self.assertEqual(listed_between(wanted[0], wanted[-1]), wanted)
            for number, whole in enumerate(wanted):
                self.assertEqual(whole_at(one, other, number), whole)
                self.assertEqual(number_of_whole(whole, factors_in(one)), number)
            for number in FAR + (len(wanted), len(wanted) + 1):
                if not 0 <= number < len(wanted):
                    check_raises(self, NoNumber(number), lambda: whole_at(one, other, number))

    def test_large_ones(self):
        every = large_groupings()
        for one, other in list(zip(every, every[::-1]))[::4] + [(from_right(30), from_left(30))]:
            near = factors_in(one)
            many = how_many_wholes(one, other)
            rows = []
            for number in sorted({0, many // 3, many // 2, many - 1}):
                whole = whole_at(one, other, number)
                self.assertEqual(halves(whole, near), (one, other))
                self.assertEqual(number_of_whole(whole, near), number)
                rows.append(reaches_of(whole))
            self.assertEqual(rows, sorted(set(rows)))
            self.assertEqual(halves(least_whole(one, other), near), (one, other))
            self.assertEqual(halves(greatest_whole(one, other), near), (one, other))
            self.assertEqual(whole_at(one, other, 0), least_whole(one, other))
            self.assertEqual(whole_at(one, other, many - 1), greatest_whole(one, other))
            check_raises(self, NoNumber(many), lambda: whole_at(one, other, many))
        self.assertEqual(how_many_wholes(from_right(30), from_left(30)), comb(58, 29))

    def test_numbers_of_large_groupings(self):
        for grouping in large_groupings():
            for factor in (1, 2, factors_in(grouping) // 2, factors_in(grouping)):
                one, other = halves(grouping, factor)
                self.assertEqual(whole_at(one, other, number_of_whole(grouping, factor)), grouping)

    def test_one_factor(self):
        for grouping in small_groupings(5):
            for one, other in ((1, grouping), (grouping, 1)):
                self.assertEqual(how_many_wholes(one, other), 1)
                self.assertEqual((least_whole(one, other), greatest_whole(one, other)), (grouping, grouping))
                self.assertEqual(whole_at(one, other, 0), grouping)
                check_raises(self, NoNumber(1), lambda: whole_at(one, other, 1))
            self.assertEqual(halves(grouping, 1), (1, grouping))
            self.assertEqual(halves(grouping, factors_in(grouping)), (grouping, 1))
            self.assertEqual(number_of_whole(grouping, 1), 0)


class GrownTest(unittest.TestCase):
    def test_by_the_definition(self):
        for factors in range(1, 7):
            more = all_groupings(1, factors + 1)
            for gap in range(factors + 1):
                rest = [factor for factor in range(1, factors + 2) if factor != gap + 1]
                found = {}
                for grouping in sorted(more, key=reaches_of):
                    found.setdefault(only_of(grouping, rest), []).append(grouping)
                for grouping in all_groupings(1, factors):
                    self.assertEqual(grown(grouping, gap), found[grouping])

    def test_large_ones(self):
        for grouping in large_groupings():
            factors = factors_in(grouping)
            for gap in (0, 1, factors // 2, factors - 1, factors):
                made = grown(grouping, gap)
                rows = [reaches_of(whole) for whole in made]
                self.assertEqual(rows, sorted(set(rows)))
                self.assertEqual([without(whole, gap + 1) for whole in made], [grouping] * len(made))
                spans = [(start, reach) for join, start, reach in pairs_of(grouping)]
                spans += [(factor, factor) for factor in range(1, factors + 1)]
                self.assertEqual(len(made), sum(last == gap or first == gap + 1 for first, last in spans))

    def test_the_first_and_the_last_gap(self):
        for grouping in small_groupings(5):
            factors = factors_in(grouping)
            self.assertEqual(len(grown(grouping, 0)), 1 + starts_of(grouping).count(1))
            self.assertEqual(len(grown(grouping, factors)), 1 + reaches_of(grouping).count(factors))
            self.assertIn(beside(1, grouping), grown(grouping, 0))
            self.assertIn(beside(grouping, 1), grown(grouping, factors))
        self.assertEqual((grown(1, 0), grown(1, 1)), ([(1, 2)], [(1, 2)]))


class WishesTest(unittest.TestCase):
    def test_least_by_and_greatest_by(self):
        for factors in range(1, 7):
            every = all_groupings(1, factors)
            for pairs in some_pairs_for(factors):
                fit = [grouping for grouping in every if meets(grouping, pairs)]
                least = least_by(factors, pairs)
                self.assertIn(least, fit)
                self.assertTrue(all(leads_to(least, grouping) for grouping in fit))
                fit = [grouping for grouping in every if keeps(grouping, pairs)]
                greatest = greatest_by(factors, pairs)
                self.assertIn(greatest, fit)
                self.assertTrue(all(leads_to(grouping, greatest) for grouping in fit))

    def test_follows(self):
        for factors in range(2, 6):
            every = all_groupings(1, factors)
            for wishes in some_pairs_for(factors)[::3]:
                fit = [grouping for grouping in every if meets(grouping, wishes)]
                for wish in pairs_for(factors):
                    wanted = all(meets(grouping, (wish,)) for grouping in fit)
                    self.assertIs(follows(factors, wishes, wish), wanted)

    def test_wishes_of_and_bars_of_by_the_definition(self):
        for grouping in small_groupings(7) + large_groupings():
            wishes, bars = operands_of(grouping)
            self.assertEqual(wishes_of(grouping), tuple(sorted(wishes)))
            self.assertEqual(bars_of(grouping), tuple(sorted(bars)))

    def test_they_make_the_grouping_and_none_can_be_left_out(self):
        for grouping in small_groupings(6) + large_groupings():
            factors = factors_in(grouping)
            for tell, make in ((wishes_of, least_by), (bars_of, greatest_by)):
                pairs = tell(grouping)
                self.assertEqual(make(factors, pairs), grouping)
                for pair in pairs:
                    self.assertNotEqual(make(factors, tuple(other for other in pairs if other != pair)), grouping)

    def test_wishes_that_make_the_grouping_have_one_for_each_of_its_own(self):
        for factors in range(2, 7):
            for pairs in some_pairs_for(factors):
                for join, goal in wishes_of(least_by(factors, pairs)):
                    self.assertTrue(any(other == join and more >= goal for other, more in pairs))
                for join, goal in bars_of(greatest_by(factors, pairs)):
                    self.assertTrue(any(other == join and less <= goal for other, less in pairs))

    def test_groupings_with_one_wish(self):
        for factors in range(1, 8):
            every = all_groupings(1, factors)
            behind = [row[0] for grouping in every for row in steps_of(grouping).values()]
            for tell, ends in ((wishes_of, behind.count), (bars_of, lambda grouping: len(steps_of(grouping)))):
                ones = [grouping for grouping in every if len(tell(grouping)) == 1]
                self.assertEqual(len(ones), (factors - 1) * (factors - 2) // 2)
                self.assertEqual(ones, [grouping for grouping in every if ends(grouping) == 1])

    def test_wishes_and_bars_that_ask_nothing(self):
        for factors in range(1, 31):
            self.assertEqual(least_by(factors, ()), from_left(factors))
            self.assertEqual(greatest_by(factors, ()), from_right(factors))
            joins = range(1, factors)
            self.assertEqual(least_by(factors, tuple((join, goal) for join in joins for goal in (1, join, join + 1))),
                             from_left(factors))
            self.assertEqual(greatest_by(factors, tuple((join, goal) for join in joins for goal in (join, factors))),
                             from_right(factors))
            self.assertEqual(least_by(factors, tuple((join, factors) for join in joins)), from_right(factors))
            self.assertEqual(greatest_by(factors, tuple((join, 1) for join in joins)), from_left(factors))

    def test_large_ones(self):
        for seed, grouping in enumerate(large_groupings()):
            factors = factors_in(grouping)
            pairs = pairs_for(factors)
            some = tuple(pairs[(seed * 41 + at * at * 97 + at * 31) % len(pairs)] for at in range(1 + seed % 9))
            least, greatest = least_by(factors, some), greatest_by(factors, some)
            self.assertTrue(meets(least, some))
            self.assertTrue(keeps(greatest, some))
            # Nothing that is less than the least one, or greater than the greatest one, will do.
            for ahead in [mirrored(row[0]) for row in steps_of(mirrored(least)).values()]:
                self.assertFalse(meets(ahead, some))
            for behind in [row[0] for row in steps_of(greatest).values()]:
                self.assertFalse(keeps(behind, some))
            for join, goal in pairs[::7]:
                self.assertIs(follows(factors, some, (join, goal)), meets(least, ((join, goal),)))


def operands_of(part):
    """The pairs (i, j + 1) for right operands that are pairs, and (j, i) for left ones."""
    if isinstance(part, int):
        return [], []
    left, right = part
    join = factors_of(left)[-1]
    wishes, bars = [], []
    for each in (left, right):
        inner_wishes, inner_bars = operands_of(each)
        wishes += inner_wishes
        bars += inner_bars
    if not isinstance(right, int):
        wishes.append((join, factors_of(right[0])[-1] + 1))
    if not isinstance(left, int):
        bars.append((join, factors_of(left[0])[-1]))
    return wishes, bars


class ErrorsTest(unittest.TestCase):
    def test_no_factor(self):
        for grouping in small_groupings(4) + large_groupings()[::11]:
            factors = factors_in(grouping)
            for factor in FAR + (factors + 1, factors + 2):
                for handed in (grouping, as_lists(grouping)):
                    wanted = NoFactor(factor)
                    check_raises(self, wanted, lambda: only(handed, (factor,)))
                    check_raises(self, wanted, lambda: without(handed, factor))
                    check_raises(self, wanted, lambda: put_in(handed, factor, (1, 2)))
                    check_raises(self, wanted, lambda: halves(handed, factor))
                    check_raises(self, wanted, lambda: number_of_whole(handed, factor))

    def test_the_first_that_is_no_factor(self):
        for factors, wrong in (((0, 1, 9), 0), ((1, 5, 6), 5), ((-2, 0, 1), -2), ((2, 3, 7, 8), 7), ((1, 2, 3, 4, 5), 5)):
            check_raises(self, NoFactor(wrong), lambda: only(from_left(4), factors))
            check_raises(self, NoFactor(wrong), lambda: only(grouping=from_left(4), factors=list(factors)))

    def test_no_gap(self):
        for grouping in small_groupings(4) + [from_left(30)]:
            for gap in (-HUGE, -31, -1, factors_in(grouping) + 1, factors_in(grouping) + 2, HUGE):
                check_raises(self, NoNumber(gap), lambda: grown(grouping, gap))
                check_raises(self, NoNumber(gap), lambda: grown(gap=gap, grouping=as_lists(grouping)))

    def test_no_whole(self):
        for number in (-HUGE, -1, 2, 3, HUGE):
            check_raises(self, NoNumber(number), lambda: whole_at((1, 2), (1, (2, 3)), number))
            check_raises(self, NoNumber(number), lambda: whole_at([1, 2], [1, [2, 3]], number))

    def test_wrong_pairs(self):
        for pairs, wanted in (
                (((0, 1),), NoJoin(0)), (((4, 1),), NoJoin(4)), (((-1, 9),), NoJoin(-1)), (((1, 0),), NoFactor(0)),
                (((1, 5),), NoFactor(5)), (((3, -7),), NoFactor(-7)), (((1, 2), (4, 9)), NoJoin(4)),
                (((1, 5), (4, 1)), NoFactor(5)), (((4, 1), (1, 5)), NoJoin(4)), (((9, 9), (0, 0)), NoJoin(9)),
                (((1, 4), (2, 3), (3, HUGE), (HUGE, 1)), NoFactor(HUGE)), (((HUGE, 1), (1, 9)), NoJoin(HUGE))):
            for handed in (pairs, as_lists(pairs)):
                check_raises(self, wanted, lambda: least_by(4, handed))
                check_raises(self, wanted, lambda: greatest_by(4, handed))
                check_raises(self, wanted, lambda: follows(4, handed, (1, 2)))
                check_raises(self, wanted, lambda: follows(4, handed, (7, 8)))
            if len(pairs) == 1:
                check_raises(self, wanted, lambda: follows(4, ((1, 2), (3, 4)), pairs[0]))
                check_raises(self, NoJoin(-5), lambda: follows(4, ((-5, 2), (3, 4)), pairs[0]))
        for wish, wanted in (((0, 0), NoJoin(0)), ((4, 4), NoJoin(4)), ((3, 5), NoFactor(5)), ((1, 0), NoFactor(0))):
            check_raises(self, wanted, lambda: follows(4, (), wish))
            check_raises(self, wanted, lambda: follows(4, ((1, 4),), list(wish)))

    def test_one_factor_has_no_join(self):
        for make in (least_by, greatest_by):
            self.assertEqual(make(1, ()), 1)
            check_raises(self, NoJoin(1), lambda: make(1, ((1, 1),)))
        check_raises(self, NoJoin(1), lambda: follows(1, (), (1, 1)))


class GeneralRulesTest(unittest.TestCase):
    def test_lists_for_tuples_and_arguments_by_name(self):
        pairs = [pair for factors in range(1, 5) for pair in pairs_in_order(factors)] + large_pairs()[::29]
        for one, other in pairs:
            for change in (as_lists, lists_mixed_in):
                near, far = change(one), change(other)
                last = factors_in(one)
                some = tuple(range(1, last + 1, 2))
                self.assertEqual(repr(only(factors=list(some), grouping=near)), repr(only(one, some)))
                self.assertEqual(repr(put_in(other=far, factor=last, grouping=near)), repr(put_in(one, last, other)))
                self.assertEqual(repr(beside(other=far, one=near)), repr(beside(one, other)))
                self.assertEqual(repr(halves(factor=last, grouping=near)), repr(halves(one, last)))
                for tell in (how_many_wholes, least_whole, greatest_whole):
                    self.assertEqual(repr(tell(other=far, one=near)), repr(tell(one, other)))
                number = how_many_wholes(one, other) // 2
                whole = whole_at(one, other, number)
                self.assertEqual(repr(whole_at(number=number, other=far, one=near)), repr(whole))
                self.assertEqual(number_of_whole(factor=last, grouping=change(whole)), number)
                self.assertEqual(repr(grown(gap=1, grouping=near)), repr(grown(one, 1)))
                if last > 1:
                    self.assertEqual(repr(without(factor=last, grouping=near)), repr(without(one, last)))
                for tell, make, name in ((wishes_of, least_by, "wishes"), (bars_of, greatest_by, "bars")):
                    told = tell(one)
                    self.assertEqual(repr(tell(grouping=near)), repr(told))
                    handed = change(told)
                    self.assertEqual(repr(make(last, handed)), repr(one))
                    self.assertEqual(repr(make(**{name: handed, "factors": last})), repr(one))
                    self.assertEqual(handed, change(told))
                    for wish in told[:1]:
                        self.assertIs(follows(wish=list(wish), wishes=handed, factors=last),
                                      follows(last, told, wish))
                self.assertEqual((near, far), (change(one), change(other)))

    def test_what_is_returned(self):
        one, other = as_lists(from_left(4)), as_lists(from_right(3))
        for made in (only(one, [1, 3]), only(one, [1, 2, 3, 4]), without(one, 2), put_in(one, 2, other), put_in(1, 1, one),
                     put_in(one, 1, 1), beside(one, other), least_whole(one, other), greatest_whole(one, other),
                     whole_at(one, other, 0), least_by(4, []), greatest_by(4, [[3, 1]]), *halves(one, 2), *grown(one, 2)):
            self.assertIs(is_grouping(made), True)
        for told in (halves(one, 2), wishes_of(one), bars_of(one), bars_of(one)[0], wishes_of(other)[0]):
            self.assertIs(type(told), tuple)

    def test_lists_are_new(self):
        for gap in range(4):
            first = grown(from_left(3), gap)
            self.assertIs(type(first), list)
            wanted = list(first)
            first.append("more")
            self.assertEqual(grown(from_left(3), gap), wanted)

    def test_factors_are_not_changed(self):
        factors = [1, 3]
        only(from_left(4), factors)
        self.assertEqual(factors, [1, 3])


if __name__ == "__main__":
    unittest.main()
