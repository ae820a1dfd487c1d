"""[2], [3], [11]: brackets asked for."""

import unittest
from itertools import combinations, product

from regroups import brackets as module
from regroups.brackets import (
    between_having, crossing, family_of, greatest_having, has_all, how_many_avoiding, how_many_having, how_many_sets,
    is_brackets, last_having, least_having, next_having, one_avoiding, parts_of, possible_between, sure_between,
)
from regroups.counts import how_many
from regroups.errors import Crossed, NoFactor, NoJoin, NotBehind, Unlike
from regroups.groupings import factors_in, from_left, from_right, is_grouping
from regroups.order import leads_to, least_behind
from tests.examples import check_raises, run_examples
from tests.samples import (
    all_groupings, as_lists, large_groupings, large_pairs, led_to, listed_between, lists_mixed_in, nexts_of,
    pairs_in_order, pairs_of, reaches_of, small_groupings, steps_of,
)

EXAMPLES = """
    >>> crossing(((1, 2), (3, 4), (2, 3), (1, 3))), crossing(((1, 2), (1, 4))), is_brackets(4, ((1, 2), (1, 4))), is_brackets(4, ((1, 3), (2, 4))), is_brackets(3, ((2, 4),)), is_brackets(4, ((3, 4), (1, 2)))
    (((1, 2), (2, 3)), None, True, False, False, False)
    >>> parts_of(5, ((2, 4),)), least_having(5, ((2, 4),)), greatest_having(5, ((2, 4),)), how_many_having(5, ((2, 4),)), how_many_having(1, ())
    ([((1, 5), ((1, 1), (2, 4), (5, 5))), ((2, 4), ((2, 2), (3, 3), (4, 4)))], ((1, ((2, 3), 4)), 5), (1, ((2, (3, 4)), 5)), 4, 1)
    >>> has_all((1, ((2, 3), 4)), ((2, 4), (1, 4))), next_having(((1, 2), (3, 4)), ((2, 4),)), last_having(((1, 2), (3, 4)), ((1, 3),)), next_having((1, (2, (3, 4))), ((1, 2),))
    (True, (1, (2, (3, 4))), (((1, 2), 3), 4), None)
    >>> sure_between(((1, 2), (3, 4)), (1, (2, (3, 4)))), possible_between(((1, 2), (3, 4)), (1, (2, (3, 4)))), between_having((((1, 2), 3), 4), (1, (2, (3, 4))), ((2, 3),))
    (((1, 4), (3, 4)), ((1, 2), (1, 4), (2, 4), (3, 4)), (((1, (2, 3)), 4), (1, ((2, 3), 4))))
    >>> family_of(((1, 2), (3, 4)), (1, (2, (3, 4)))), family_of((((1, 2), 3), 4), (1, ((2, 3), 4))), [how_many_sets(4, size) for size in range(4)], how_many_avoiding(4, ((2, 3),)), one_avoiding(3, ((1, 2), (2, 3)))
    (((1, 4), (3, 4)), None, [1, 5, 5, 0], 3, None)
    >>> least_having(4, ((1, 2), (2, 3)))
    raises Crossed(one=(1, 2), other=(2, 3))
    >>> how_many_having(3, ((2, 4),))
    raises NoFactor(factor=4)
    >>> sure_between((1, (2, 3)), ((1, 2), 3))
    raises NotBehind()
"""

HUGE = 10 ** 5000


def spans_of(grouping):
    return {(start, reach) for join, start, reach in pairs_of(grouping)}


def every_span(factors):
    return [(first, last) for first in range(1, factors) for last in range(first + 1, factors + 1)]


def do_cross(one, other):
    near, far = set(range(one[0], one[1] + 1)), set(range(other[0], other[1] + 1))
    return bool(near & far) and not near <= far and not far <= near


def all_brackets(factors):
    """All sets of brackets no two of which cross, the whole among some of them."""
    found = [()]
    for span in every_span(factors):
        found += [some + (span,) for some in found if not any(do_cross(span, other) for other in some)]
    return [tuple(sorted(some)) for some in found]


def some_brackets(factors, seed):
    """Brackets that do not cross, in some order, one of them maybe twice; the same ones each time."""
    found = []
    for at in range(40):
        first = 1 + (seed * 31 + at * 17 + at * at) % factors
        last = 1 + (seed * 57 + at * 29 + at * at * 3) % factors
        if first < last and not any(do_cross((first, last), other) for other in found):
            found.append((first, last))
    return tuple(found[seed % 4:])


def asked_for(most):
    """(factors, brackets) to try: all sets for few factors, in order and from behind, and one bracket twice."""
    for factors in range(1, most + 1):
        for some in all_brackets(factors):
            yield factors, some
            if len(some) > 1:
                yield factors, some[::-1] + some[:1]


def large_ones():
    return [(factors, some_brackets(factors, seed)) for factors in (8, 12, 17, 29, 30) for seed in range(12)]


def having(factors, brackets):
    return [grouping for grouping in all_groupings(1, factors) if set(brackets) <= spans_of(grouping)]


def least_of(groupings):
    return [one for one in groupings if all(other in led_to(one) for other in groupings)]


def greatest_of(groupings):
    return [one for one in groupings if all(one in led_to(other) for other in groupings)]


class ExamplesTest(unittest.TestCase):
    def test_examples_of_chapter_10(self):
        run_examples(self, EXAMPLES, vars(module))


class CrossingTest(unittest.TestCase):
    def test_two(self):
        for one, other in product(every_span(6), repeat=2):
            self.assertEqual(crossing((one, other)), (one, other) if do_cross(one, other) else None)

    def test_the_first_that_crosses_and_the_first_that_it_crosses(self):
        for some in product(every_span(4), repeat=4):
            wanted = [(one, other) for at, other in enumerate(some) for one in some[:at] if do_cross(one, other)]
            self.assertEqual(crossing(some), wanted[0] if wanted else None)

    def test_none(self):
        self.assertIsNone(crossing(()))
        self.assertIsNone(crossing([]))
        self.assertIsNone(crossing(((3, 9),)))
        self.assertIsNone(crossing(((1, 2), (1, 2), (1, 2))))

    def test_any_numbers(self):
        self.assertEqual(crossing(((-5, 0), (0, HUGE), (-HUGE, -5))), ((-5, 0), (0, HUGE)))
        self.assertIsNone(crossing(((-5, 0), (1, HUGE), (-HUGE, HUGE))))

    def test_tuples_of_lists(self):
        self.assertEqual(repr(crossing([[1, 2], [3, 4], [2, 3]])), "((1, 2), (2, 3))")
        self.assertEqual(repr(crossing(brackets=([1, 3], (2, 4)))), "((1, 3), (2, 4))")


class IsBracketsTest(unittest.TestCase):
    def test_all_sets(self):
        for factors in range(1, 6):
            found = set(all_brackets(factors))
            for some in found:
                self.assertIs(is_brackets(factors, some), True)
                self.assertIs(is_brackets(factors=factors, thing=some), True)
                self.assertIs(is_brackets(factors, list(some)), False)
                if some:
                    self.assertIs(is_brackets(factors, as_lists(some)), False)
                    self.assertIs(is_brackets(factors, some + some[-1:]), False)
                    self.assertIs(is_brackets(factors, some[:-1] + (list(some[-1]),)), False)
                if len(some) > 1:
                    self.assertIs(is_brackets(factors, some[::-1]), False)

    def test_just_these(self):
        for factors in range(1, 5):
            found = set(all_brackets(factors))
            pairs = [(first, last) for first in range(6) for last in range(6)]
            for many in (0, 1, 2):
                for some in product(pairs, repeat=many):
                    self.assertIs(is_brackets(factors, some), some in found)
            for many in (3, 4):
                for some in combinations(every_span(4), many):
                    self.assertIs(is_brackets(factors, some), some in found)

    def test_other_things(self):
        deep = (1, 2)
        for _ in range(38):
            deep = (deep, deep)
        for thing in (
                None, True, False, 0, 1, HUGE, "", "ab", [], [(1, 2)], NoJoin(1), Unlike(), (1, 2), (1,), (True,), (None,),
                ((),), ((1,),), ((1, 2, 3),), ((1, True),), ((True, 2),), ((1, "2"),), (("1", 2),), ((1, None),), ("12",),
                ((1, HUGE),), ((-HUGE, 2),), (([1, 2]),), ([1, 2],), ((1, (2,)),), (((1, 2),),), ((1, 2), None),
                ((0, 2),), ((1, 5),), ((2, 2),), ((3, 2),), ((1, 2), (2, 3)), ((1, 2), (1, 2)), deep, (deep,),
                ((1, 2),) * 100000, ((1, 2), (1, 3), (1, 4), (2, 4)), (NoJoin(1),), ((1, NoJoin(2)),)):
            self.assertIs(is_brackets(4, thing), False)
        for thing in ((), ((1, 4),), ((1, 2), (1, 3), (1, 4)), ((1, 2), (1, 4), (3, 4))):
            self.assertIs(is_brackets(4, thing), True)
        self.assertIs(is_brackets(1, ()), True)
        self.assertIs(is_brackets(1, ((1, 1),)), False)
        self.assertIs(is_brackets(1, ((1, 2),)), False)

    def test_large_ones(self):
        for factors, some in large_ones():
            self.assertIs(is_brackets(factors, tuple(sorted(set(some)))), True)
        self.assertIs(is_brackets(30, tuple(every_span(30))), False)


class PartsTest(unittest.TestCase):
    def check_parts(self, factors, some):
        rows = parts_of(factors, some)
        spans = sorted(set(some) | ({(1, factors)} if factors > 1 else set()))
        self.assertEqual([span for span, stretches in rows], spans)
        for (first, last), stretches in rows:
            within = [span for span in spans if span != (first, last) and first <= span[0] and span[1] <= last]
            widest = [span for span in within if not any(
                span != other and other[0] <= span[0] and span[1] <= other[1] for other in within)]
            taken = {factor for span in widest for factor in range(span[0], span[1] + 1)}
            alone = [(factor, factor) for factor in range(first, last + 1) if factor not in taken]
            self.assertEqual(stretches, tuple(sorted(widest + alone)))

    def test_by_the_definition(self):
        for factors, some in list(asked_for(6)) + large_ones():
            self.check_parts(factors, some)

    def test_edges(self):
        self.assertEqual((parts_of(1, ()), parts_of(1, [])), ([], []))
        self.assertEqual(parts_of(2, ()), [((1, 2), ((1, 1), (2, 2)))])
        self.assertEqual(parts_of(2, ((1, 2), (1, 2))), [((1, 2), ((1, 1), (2, 2)))])
        self.assertEqual(parts_of(3, ()), [((1, 3), ((1, 1), (2, 2), (3, 3)))])


class HavingTest(unittest.TestCase):
    def test_least_greatest_and_how_many(self):
        for factors, some in asked_for(5):
            found = having(factors, some)
            self.assertEqual(least_of(found), [least_having(factors, some)])
            self.assertEqual(greatest_of(found), [greatest_having(factors, some)])
            self.assertEqual(how_many_having(factors, some), len(found))
            between = listed_between(least_having(factors, some), greatest_having(factors, some))
            self.assertEqual(between, sorted(found, key=reaches_of))

    def test_six_factors(self):
        for factors, some in list(asked_for(6))[::5]:
            found = having(factors, some)
            self.assertEqual(least_of(found), [least_having(factors, some)])
            self.assertEqual(greatest_of(found), [greatest_having(factors, some)])
            self.assertEqual(how_many_having(factors, some), len(found))

    def test_large_ones(self):
        for factors, some in large_ones():
            least, greatest = least_having(factors, some), greatest_having(factors, some)
            self.assertTrue(has_all(least, some))
            self.assertTrue(has_all(greatest, some))
            self.assertTrue(leads_to(least, greatest))
            for behind in nexts_of(greatest):
                self.assertFalse(has_all(behind, some))
            product_of_all = 1
            for span, stretches in parts_of(factors, some):
                product_of_all *= how_many(len(stretches))
            self.assertEqual(how_many_having(factors, some), product_of_all)

    def test_all_brackets_of_a_grouping(self):
        for grouping in small_groupings(6) + large_groupings():
            factors, spans = factors_in(grouping), tuple(spans_of(grouping))
            self.assertEqual((least_having(factors, spans), greatest_having(factors, spans)), (grouping, grouping))
            self.assertEqual(how_many_having(factors, spans), 1)
            self.assertIs(has_all(grouping, spans), True)
            self.assertEqual((next_having(grouping, spans), last_having(grouping, spans)), (grouping, grouping))

    def test_no_brackets_and_the_whole(self):
        for factors in range(1, 31):
            for some in ((),) if factors == 1 else ((), ((1, factors),), ((1, factors),) * 3):
                self.assertEqual(least_having(factors, some), from_left(factors))
                self.assertEqual(greatest_having(factors, some), from_right(factors))
                self.assertEqual(how_many_having(factors, some), how_many(factors))

    def test_has_all(self):
        for grouping in small_groupings(5):
            for first in range(-1, factors_in(grouping) + 3):
                for last in range(first + 1, factors_in(grouping) + 3):
                    self.assertIs(has_all(grouping, ((first, last),)), (first, last) in spans_of(grouping))
                    self.assertIs(has_all(grouping, (*spans_of(grouping), (first, last))),
                                  (first, last) in spans_of(grouping))
            self.assertIs(has_all(grouping, ()), True)
            for far in ((-HUGE, 1), (1, HUGE)):
                self.assertIs(has_all(grouping, (far,)), False)
        self.assertIs(has_all(((1, 2), 3), ((1, 2), (2, 3))), False)

    def test_next_and_last_having(self):
        for factors, some in asked_for(5):
            found = having(factors, some)
            for grouping in all_groupings(1, factors):
                behind = least_of([other for other in found if other in led_to(grouping)])
                self.assertEqual(next_having(grouping, some), behind[0] if behind else None)
                ahead = greatest_of([other for other in found if grouping in led_to(other)])
                self.assertEqual(last_having(grouping, some), ahead[0] if ahead else None)

    def test_next_and_last_having_of_large_ones(self):
        for grouping in large_groupings():
            factors = factors_in(grouping)
            for seed in range(6):
                some = some_brackets(factors, seed)
                least, greatest = least_having(factors, some), greatest_having(factors, some)
                behind, ahead = next_having(grouping, some), last_having(grouping, some)
                self.assertIs(behind is None, not leads_to(grouping, greatest))
                self.assertIs(ahead is None, not leads_to(least, grouping))
                for near, far in ((grouping, behind), (ahead, grouping)):
                    if near is not None and far is not None:
                        self.assertTrue(leads_to(near, far))
                for found in (behind, ahead):
                    if found is not None:
                        self.assertTrue(has_all(found, some))


class BetweenTest(unittest.TestCase):
    def pairs(self):
        return [pair for factors in range(1, 6) for pair in pairs_in_order(factors)]

    def test_sure_and_possible(self):
        for one, other in self.pairs() + pairs_in_order(6)[::7]:
            spans = [spans_of(grouping) for grouping in listed_between(one, other)]
            self.assertEqual(sure_between(one, other), tuple(sorted(set.intersection(*spans))))
            self.assertEqual(possible_between(one, other), tuple(sorted(set.union(*spans))))

    def test_sure_and_possible_of_large_ones(self):
        for one, other in large_pairs()[::3]:
            both = tuple(sorted(spans_of(one) & spans_of(other)))
            self.assertEqual(sure_between(one, other), both)
            possible = possible_between(one, other)
            self.assertEqual(possible, tuple(sorted(set(possible))))
            self.assertLessEqual(spans_of(one) | spans_of(other), set(possible))
            for span in every_span(factors_in(one))[::5]:
                self.assertIs(span in possible, between_having(one, other, (span,)) is not None)

    def test_between_having(self):
        wanted_none = 0
        for one, other in self.pairs():
            if factors_in(one) > 4:
                continue
            for factors, some in asked_for(4):
                if factors == factors_in(one):
                    found = [grouping for grouping in listed_between(one, other) if set(some) <= spans_of(grouping)]
                    wanted = (least_of(found)[0], greatest_of(found)[0]) if found else None
                    self.assertEqual(between_having(one, other, some), wanted)
                    wanted_none += wanted is None
        self.assertGreater(wanted_none, 0)

    def test_between_having_of_five_factors(self):
        some = [brackets for factors, brackets in asked_for(5) if factors == 5]
        for at, (one, other) in enumerate(pairs_in_order(5)):
            for brackets in some[at % 5::5]:
                found = [grouping for grouping in listed_between(one, other) if set(brackets) <= spans_of(grouping)]
                wanted = (least_of(found)[0], greatest_of(found)[0]) if found else None
                self.assertEqual(between_having(one, other, brackets), wanted)

    def test_family_of(self):
        for factors in range(1, 6):
            families = {}
            for some in all_brackets(factors):
                found = tuple(sorted(having(factors, some), key=reaches_of))
                if len(some) >= len(families.get(found, ())):
                    families[found] = some
            for one, other in pairs_in_order(factors):
                self.assertEqual(family_of(one, other), families.get(tuple(listed_between(one, other))))

    def test_there_is_a_family_just_of_one_and_what_is_behind_some_steps(self):
        for one, other in self.pairs() + pairs_in_order(6)[::3]:
            behind = [grouping for grouping in nexts_of(one) if other in led_to(grouping)]
            self.assertIs(family_of(one, other) is not None, other == least_behind([one] + behind))

    def test_family_of_one_and_open_joins(self):
        for grouping in large_groupings():
            spans = spans_of(grouping)
            self.assertEqual(family_of(grouping, grouping), tuple(sorted(spans)))
            goes = sorted(row[2] for row in steps_of(grouping).values())
            for some in (goes[:1], goes[::2], goes):
                left = tuple(sorted(spans - set(some)))
                greatest = greatest_having(factors_in(grouping), left)
                if least_having(factors_in(grouping), left) == grouping:
                    self.assertEqual(family_of(grouping, greatest), left)


class SetsTest(unittest.TestCase):
    def test_how_many_sets(self):
        for factors in range(1, 8):
            sizes = [len(some) for some in all_brackets(factors) if (1, factors) not in some]
            for size in range(factors + 4):
                self.assertEqual(how_many_sets(factors, size), sizes.count(size))

    def test_up_to_thirty_factors(self):
        for factors in range(1, 31):
            self.assertEqual(how_many_sets(factors, 0), 1)
            self.assertEqual(how_many_sets(factors, factors), 0)
            self.assertEqual(how_many_sets(factors, HUGE), 0)
            if factors > 1:
                self.assertEqual(how_many_sets(factors, factors - 2), how_many(factors))
                self.assertEqual(how_many_sets(factors, factors - 1), 0)
            if factors > 2:
                self.assertEqual(how_many_sets(factors, 1), len(every_span(factors)) - 1)


class AvoidingTest(unittest.TestCase):
    def check_avoiding(self, factors, some):
        found = [grouping for grouping in all_groupings(1, factors) if not set(some) & spans_of(grouping)]
        self.assertEqual(how_many_avoiding(factors, some), len(found))
        one = one_avoiding(factors, some)
        if found:
            self.assertIn(one, found)
            self.assertIs(is_grouping(one), True)
        else:
            self.assertIsNone(one)

    def test_all_sets_of_four_factors(self):
        for factors in (1, 2, 3, 4):
            spans = every_span(factors)
            for size in range(len(spans) + 1):
                for some in combinations(spans, size):
                    self.check_avoiding(factors, some)
                    self.check_avoiding(factors, some[::-1] + some)

    def test_five_and_six_factors(self):
        for factors in (5, 6):
            spans = every_span(factors)
            for size in (0, 1, 2):
                for some in combinations(spans, size):
                    self.check_avoiding(factors, some)
            for seed in range(150):
                some = tuple(span for at, span in enumerate(spans) if (at * at + at * seed + seed) % 7 < seed % 5)
                self.check_avoiding(factors, some)

    def test_large_ones(self):
        for factors in (8, 17, 30):
            spans = every_span(factors)
            self.assertEqual(how_many_avoiding(factors, ()), how_many(factors))
            self.assertEqual(how_many_avoiding(factors, ((1, factors),)), 0)
            self.assertIsNone(one_avoiding(factors, ((2, 3), (1, factors))))
            self.assertEqual(how_many_avoiding(factors, ((2, 5),)), how_many(factors) - how_many_having(factors, ((2, 5),)))
            for one, other in ((spans[3], spans[9]), ((1, 2), (2, 3)), ((2, 4), (5, 8))):
                both = 0 if do_cross(one, other) else how_many_having(factors, (one, other))
                wanted = how_many(factors) - how_many_having(factors, (one,)) - how_many_having(factors, (other,)) + both
                self.assertEqual(how_many_avoiding(factors, (one, other)), wanted)
            twos = tuple((factor, factor + 1) for factor in range(1, factors))
            self.assertEqual(how_many_avoiding(factors, twos), 0)
            self.assertIsNone(one_avoiding(factors, twos))
            self.assertEqual(how_many_avoiding(factors, twos[1:]), 1)
            self.assertEqual(one_avoiding(factors, twos[1:]), from_left(factors))
            threes = tuple((factor, factor + 2) for factor in range(1, factors - 1))
            found = one_avoiding(factors, threes)
            self.assertFalse(spans_of(found) & set(threes))


class ErrorsTest(unittest.TestCase):
    WITH_FACTORS = (parts_of, least_having, greatest_having, how_many_having)
    AVOIDING = (how_many_avoiding, one_avoiding)

    def test_no_factor_ahead_of_crossed(self):
        for some, factor in ((((0, 2),), 0), (((1, 5),), 5), (((-3, 9),), -3), (((1, 2), (2, 3), (3, 7)), 7),
                             (((1, 3), (2, 4), (HUGE, HUGE + 1)), HUGE), (((2, 5), (0, 1)), 5), (((-HUGE, 2), (9, 10)), -HUGE)):
            self.check_each(NoFactor(factor), 4, some, self.WITH_FACTORS + self.AVOIDING)

    def test_crossed(self):
        for some, one, other in (
                (((1, 2), (2, 3)), (1, 2), (2, 3)), (((2, 4), (1, 2), (1, 3)), (2, 4), (1, 2)),
                (((1, 2), (3, 4), (2, 3), (1, 3)), (1, 2), (2, 3)), (((3, 4), (1, 2), (2, 3)), (3, 4), (2, 3)),
                (((1, 4), (2, 3), (1, 2), (3, 4)), (2, 3), (1, 2)), (((1, 2), (1, 2), (1, 3), (2, 4)), (1, 2), (2, 4))):
            self.check_each(Crossed(one, other), 4, some, self.WITH_FACTORS)
            for tell in self.AVOIDING:
                tell(4, some)

    def check_each(self, wanted, factors, some, functions):
        for handed in (some, as_lists(some), lists_mixed_in(some)):
            for tell in functions:
                check_raises(self, wanted, lambda: tell(factors, handed))
                check_raises(self, wanted, lambda: tell(brackets=handed, factors=factors))
            for tell in (next_having, last_having):
                check_raises(self, wanted, lambda: tell(from_right(factors), handed))
                check_raises(self, wanted, lambda: tell(brackets=handed, grouping=as_lists(from_left(factors))))
            check_raises(self, wanted, lambda: between_having(from_left(factors), from_right(factors), handed))
            self.assertIs(has_all(from_left(factors), handed), False)

    def test_one_factor(self):
        self.assertEqual((least_having(1, ()), greatest_having(1, ()), how_many_having(1, ())), (1, 1, 1))
        self.assertEqual((next_having(1, ()), last_having(1, ()), has_all(1, ())), (1, 1, True))
        self.assertEqual((sure_between(1, 1), possible_between(1, 1), family_of(1, 1)), ((), (), ()))
        self.assertEqual((between_having(1, 1, ()), how_many_sets(1, 0), how_many_sets(1, 1)), ((1, 1), 1, 0))
        self.assertEqual((how_many_avoiding(1, ()), one_avoiding(1, ())), (1, 1))
        self.check_each(NoFactor(2), 1, ((1, 2),), self.WITH_FACTORS + self.AVOIDING)
        self.assertIs(has_all(1, ((1, 2),)), False)

    def test_unlike_and_not_behind_ahead_of_both(self):
        wrong = ((), ((1, 2), (2, 3)), ((0, 9),), ((1, 3), (2, 9)))
        for one, other in ((1, (1, 2)), ((1, (2, 3)), (1, 2)), (from_right(30), from_left(29))):
            for near, far in ((one, other), (as_lists(one), as_lists(other))):
                for tell in (sure_between, possible_between, family_of):
                    check_raises(self, Unlike(), lambda: tell(near, far))
                for some in wrong:
                    check_raises(self, Unlike(), lambda: between_having(near, far, some))
        for factors in (3, 4, 30):
            near, far = from_right(factors), from_left(factors)
            for tell in (sure_between, possible_between, family_of):
                check_raises(self, NotBehind(), lambda: tell(near, far))
            for some in wrong:
                check_raises(self, NotBehind(), lambda: between_having(near, far, some))


class GeneralRulesTest(unittest.TestCase):
    def test_lists_for_tuples_and_arguments_by_name(self):
        for factors, some in list(asked_for(4)) + large_ones()[::7]:
            grouping = from_left(factors)
            for change in (as_lists, lists_mixed_in):
                handed = change(some)
                for tell in (parts_of, least_having, greatest_having, how_many_having, how_many_avoiding, one_avoiding):
                    told = repr(tell(factors, some))
                    self.assertEqual(repr(tell(factors, handed)), told)
                    self.assertEqual(repr(tell(brackets=handed, factors=factors)), told)
                for tell in (has_all, next_having, last_having):
                    told = repr(tell(grouping, some))
                    self.assertEqual(repr(tell(brackets=handed, grouping=change(grouping))), told)
                told = repr(between_having(grouping, from_right(factors), some))
                near, far = change(grouping), change(from_right(factors))
                self.assertEqual(repr(between_having(brackets=handed, other=far, one=near)), told)
                for tell in (sure_between, possible_between, family_of):
                    self.assertEqual(repr(tell(other=far, one=near)), repr(tell(grouping, from_right(factors))))
                self.assertEqual(how_many_sets(size=1, factors=factors), how_many_sets(factors, 1))
                self.assertEqual((handed, near, far), (change(some), change(grouping), change(from_right(factors))))

    def test_lists_are_new(self):
        first = parts_of(4, ((1, 2),))
        self.assertIs(type(first), list)
        first.append("more")
        self.assertEqual(len(parts_of(4, ((1, 2),))), 2)
        empty = parts_of(1, ())
        empty.append("more")
        self.assertEqual(parts_of(1, ()), [])

    def test_kinds(self):
        rows = parts_of(4, [[1, 2], [1, 2]])
        self.assertEqual(repr(rows), "[((1, 2), ((1, 1), (2, 2))), ((1, 4), ((1, 2), (3, 3), (4, 4)))]")
        for told in (sure_between([1, 2], [1, 2]), possible_between([1, 2], [1, 2]), family_of([1, 2], [1, 2]),
                     between_having([1, 2], [1, 2], [])):
            self.assertIs(type(told), tuple)
        for made in (least_having(4, [[1, 2]]), greatest_having(4, [[1, 2]]), next_having([[1, 2], 3], []),
                     last_having([[1, 2], 3], []), one_avoiding(3, [[1, 2]]), *between_having([1, 2], [1, 2], [])):
            self.assertIs(is_grouping(made), True)


if __name__ == "__main__":
    unittest.main()
