"""[2], [3], [16]: what was seen in time."""

import unittest

from regroups import logs
from regroups.between import Between
from regroups.brackets import (
    between_having, greatest_having, has_all, last_having, least_having, next_having, sure_between,
)
from regroups.errors import Crossed, NoFactor, Unlike
from regroups.groupings import brackets, factors_in, from_left, from_right, is_grouping
from regroups.logs import (
    can_be, can_be_at, earliest, first_wrong, history_with, how_many_histories, is_history, latest, many_at, moments_of,
    needless, settled, steps_of_log, sure_at,
)
from regroups.order import leads_to
from regroups.routes import fewest_steps, most_steps
from tests.examples import check_raises, run_examples
from tests.samples import (
    HUGE, all_groupings, as_lists, brackets_of, halved, large_groupings, led_to, lists_mixed_in, odd_things, pairs_in_order,
    walked_from,
)

EXAMPLES = """
    >>> log = (((1, 2),), (), ((2, 4),))
    >>> can_be(4, log), earliest(4, log), latest(4, log), [many_at(4, log, moment) for moment in range(3)]
    (True, ((((1, 2), 3), 4), (((1, 2), 3), 4), (1, ((2, 3), 4))), (((1, 2), (3, 4)), (1, (2, (3, 4))), (1, (2, (3, 4)))), [2, 5, 2])
    >>> [sure_at(4, log, moment) for moment in range(3)], moments_of(4, log, (1, 2)), moments_of(4, log, (3, 4)), settled(4, log), needless(4, log)
    ([((1, 2), (1, 4)), ((1, 4),), ((1, 4), (2, 4))], ((0,), (0, 1)), ((), (0, 1, 2)), (), (1,))
    >>> can_be_at(4, log, 1, ((1, (2, 3)), 4)), can_be_at(4, log, 0, ((1, (2, 3)), 4)), is_history(4, log, history_with(4, log, 1, ((1, 2), (3, 4)))), how_many_histories(4, log), steps_of_log(4, log)
    (True, False, True, 10, (1, 3))
    >>> first_wrong(4, (((2, 4),), ((1, 2),))), can_be(4, (((2, 4),), ((1, 2),))), earliest(4, (((2, 4),), ((1, 2),))), settled(4, (((1, 2), (3, 4)), ((2, 4),)))
    (1, False, None, (0, 1))
    >>> can_be(3, ((), ((2, 3), (1, 2))))
    raises Crossed(one=(2, 3), other=(1, 2))
"""

# Each with the arguments that come behind factors and log.
ALL = (
    (can_be, ()), (first_wrong, ()), (is_history, (None,)), (earliest, ()), (latest, ()), (many_at, (0,)),
    (can_be_at, (0, 1)), (history_with, (0, 1)), (sure_at, (0,)), (moments_of, ((0, 99),)), (settled, ()), (needless, ()),
    (how_many_histories, ()), (steps_of_log, ()),
)


def every_bracket(factors):
    return [(first, last) for first in range(1, factors) for last in range(first + 1, factors + 1)]


def sights(factors):
    """All sets of brackets of which no two cross, in some order, some with one of them twice."""
    found = {()}
    for grouping in all_groupings(1, factors):
        own = sorted(brackets_of(grouping))
        for chosen in range(2 ** len(own)):
            found.add(tuple(bracket for at, bracket in enumerate(own) if chosen >> at & 1))
    rows = sorted(found)
    return [row[::-1] if at % 3 == 1 else row + row[:1] if at % 3 == 2 else row for at, row in enumerate(rows)]


def some_logs(factors, seed):
    """Logs of one sight to four, the same ones each time."""
    rows = sights(factors)
    found = [(row,) for row in rows[::1 + seed]]
    for at in range(60):
        picks = [(at * 7 + seed) * (at + 3), at * at + 5 * seed + 1, at * 11 + seed * seed + 2, at * 3 + seed]
        found.append(tuple(rows[pick % len(rows)] for pick in picks[:2 + at % 3]))
    return found


def histories_of(factors, log):
    """All histories, straight from the definition."""
    found = [()]
    for sight in log:
        fits = [grouping for grouping in all_groupings(1, factors) if set(sight) <= brackets_of(grouping)]
        found = [row + (grouping,) for row in found for grouping in fits if not row or grouping in led_to(row[-1])]
    return found


def tried():
    """(factors, log, all histories) to try."""
    for factors in range(1, 5):
        for log in some_logs(factors, factors):
            yield factors, log, histories_of(factors, log)
    for log in some_logs(5, 3)[::4]:
        yield 5, log, histories_of(5, log[:3]) if len(log) > 3 else histories_of(5, log)


def tried_logs():
    for factors, log, every in tried():
        yield factors, log[:3] if factors == 5 else log, every


class ExamplesTest(unittest.TestCase):
    def test_examples_of_chapter_15(self):
        run_examples(self, EXAMPLES, vars(logs))


class ByTheDefinitionTest(unittest.TestCase):
    def setUp(self):
        self.rows = list(tried_logs())

    def test_enough_of_each_sort(self):
        self.assertGreater(sum(not every for factors, log, every in self.rows), 25)
        self.assertGreater(sum(len(every) > 1 for factors, log, every in self.rows), 40)
        self.assertGreater(sum(len(every) == 1 for factors, log, every in self.rows), 20)

    def test_can_be_and_first_wrong(self):
        for factors, log, every in self.rows:
            self.assertIs(can_be(factors, log), bool(every))
            wrong = [moment for moment in range(len(log)) if not histories_of(factors, log[:moment + 1])]
            self.assertEqual(first_wrong(factors, log), wrong[0] if wrong else None)

    def test_is_history(self):
        for factors, log, every in self.rows:
            for row in every[::1 + len(every) // 10]:
                self.assertIs(is_history(factors, log, row), True)
                self.assertIs(is_history(factors, log, list(row)), False)
                self.assertIs(is_history(factors, log, row[1:]), False)
                self.assertIs(is_history(factors, log, row + row[-1:]), False)
                if factors > 1:
                    self.assertIs(is_history(factors, log, row[:-1] + (as_lists(row[-1]),)), False)
            groupings = all_groupings(1, factors)
            for seed in range(20):
                row = tuple(groupings[(seed * (at + 2) + at * at) % len(groupings)] for at in range(len(log)))
                self.assertIs(is_history(factors, log, row), row in every)

    def test_earliest_and_latest(self):
        for factors, log, every in self.rows:
            if not every:
                self.assertIsNone(earliest(factors, log))
                self.assertIsNone(latest(factors, log))
                continue
            first, last = earliest(factors, log), latest(factors, log)
            self.assertIn(first, every)
            self.assertIn(last, every)
            for row in every:
                for low, grouping, high in zip(first, row, last):
                    self.assertTrue(grouping in led_to(low) and high in led_to(grouping))

    def test_what_there_is_at_each_moment(self):
        for factors, log, every in self.rows:
            for moment in range(len(log)):
                here = {row[moment] for row in every}
                self.assertEqual(many_at(factors, log, moment), len(here))
                if every:
                    sure = set.intersection(*[brackets_of(grouping) for grouping in here])
                    self.assertEqual(sure_at(factors, log, moment), tuple(sorted(sure)))
                else:
                    self.assertIsNone(sure_at(factors, log, moment))
                for grouping in all_groupings(1, factors):
                    self.assertIs(can_be_at(factors, log, moment, grouping), grouping in here)
                    found = history_with(factors, log, moment, grouping)
                    if grouping in here:
                        self.assertIn(found, every)
                        self.assertEqual(found[moment], grouping)
                    else:
                        self.assertIsNone(found)

    def test_moments_of_and_settled(self):
        for factors, log, every in self.rows:
            here = [{row[moment] for row in every} for moment in range(len(log))]
            if not every:
                self.assertIsNone(settled(factors, log))
            else:
                self.assertEqual(settled(factors, log), tuple(at for at, found in enumerate(here) if len(found) == 1))
            for bracket in every_bracket(factors):
                if not every:
                    self.assertIsNone(moments_of(factors, log, bracket))
                    continue
                has = [[bracket in brackets_of(grouping) for grouping in found] for found in here]
                wanted = (tuple(at for at, row in enumerate(has) if all(row)),
                          tuple(at for at, row in enumerate(has) if any(row)))
                self.assertEqual(moments_of(factors, log, bracket), wanted)

    def test_needless(self):
        found = 0
        for factors, log, every in self.rows:
            if not every:
                self.assertIsNone(needless(factors, log))
                continue
            wanted = tuple(moment for moment in range(len(log))
                           if histories_of(factors, log[:moment] + ((),) + log[moment + 1:]) == every)
            self.assertEqual(needless(factors, log), wanted)
            found += any(log[moment] not in ((), ((1, factors),)) for moment in wanted)
        self.assertGreater(found, 10)

    def test_how_many_histories_and_steps(self):
        for factors, log, every in self.rows:
            self.assertEqual(how_many_histories(factors, log), len(every))
            if not every:
                self.assertIsNone(steps_of_log(factors, log))
                continue
            fewest = min(sum(fewest_steps(near, far) for near, far in zip(row, row[1:])) for row in every)
            most = max(sum(most_steps(near, far) for near, far in zip(row, row[1:])) for row in every)
            self.assertEqual(steps_of_log(factors, log), (fewest, most))


class LargerOnesTest(unittest.TestCase):
    def test_seven_factors_and_eight_moments(self):
        every = all_groupings(1, 7)
        self.assertEqual(how_many_histories(7, ((),)), len(every))
        self.assertEqual(how_many_histories(7, ((), ())), len(pairs_in_order(7)))
        counts = {grouping: 1 for grouping in every}
        for _ in range(7):
            counts = {grouping: sum(counts[behind] for behind in led_to(grouping)) for grouping in every}
        self.assertEqual(how_many_histories(7, ((),) * 8), sum(counts.values()))
        log = (((1, 2),), (), ((2, 3),), (), (), ((2, 5),), ((1, 2), (4, 5)), ((6, 7),))
        self.assertEqual(first_wrong(7, log), 6)
        log = log[:6] + (((6, 7),), ())
        counts = None
        for sight in log:
            fits = [grouping for grouping in every if set(sight) <= brackets_of(grouping)]
            counts = {grouping: sum(counts[ahead] for ahead in counts if grouping in led_to(ahead)) if counts else 1
                      for grouping in fits}
        self.assertEqual(how_many_histories(7, log), sum(counts.values()))

    def test_six_factors_and_eight_moments(self):
        left, right = from_left(6), from_right(6)
        self.assertEqual(steps_of_log(6, ((),)), (0, 0))
        self.assertEqual(steps_of_log(6, ((),) * 8), (0, 10))
        self.assertEqual(steps_of_log(6, (brackets(left), brackets(right))), (4, 10))
        middle = halved(1, 6)
        log = (brackets(left), (), brackets(middle), (), (), (), (), brackets(right))
        self.assertEqual(steps_of_log(6, log), (fewest_steps(left, middle) + fewest_steps(middle, right),
                                                most_steps(left, middle) + most_steps(middle, right)))

    def test_a_way_with_fewer_steps_may_be_found_later(self):
        for factors, log in ((5, (((1, 4),), ((4, 5),), ((2, 3),))),
                             (6, (((1, 2),), ((2, 5),), ((4, 6),), ((2, 6), (5, 6))))):
            every = histories_of(factors, log)
            fewest = min(sum(fewest_steps(near, far) for near, far in zip(row, row[1:])) for row in every)
            most = max(sum(most_steps(near, far) for near, far in zip(row, row[1:])) for row in every)
            self.assertEqual(steps_of_log(factors, log), (fewest, most))
            self.assertEqual(how_many_histories(factors, log), len(every))

    def test_thirty_factors(self):
        for seed, grouping in enumerate([grouping for grouping in large_groupings() if factors_in(grouping) == 30]):
            rows = [grouping]
            for step in (3, 0, 9, 30):
                rows.append(walked_from(rows[-1], seed, step))
            log = tuple(tuple(sorted(brackets_of(own)))[at % 3::4] for at, own in enumerate(rows))
            self.assertIs(can_be(30, log), True)
            self.assertIs(is_history(30, log, tuple(rows)), True)
            first, last = earliest(30, log), latest(30, log)
            for history in (first, last):
                self.assertIs(is_history(30, log, history), True)
            for moment, own in enumerate(rows):
                self.assertTrue(leads_to(first[moment], own) and leads_to(own, last[moment]))
                between = Between(first[moment], last[moment])
                self.assertEqual(many_at(30, log, moment), between.many)
                self.assertIs(can_be_at(30, log, moment, own), True)
                self.assertIs(is_history(30, log, history_with(30, log, moment, own)), True)
                self.assertEqual(history_with(30, log, moment, own)[moment], own)
                for bracket in list(brackets_of(own))[::9]:
                    sure, possible = moments_of(30, log, bracket)
                    self.assertIs(moment in sure, between.how_many_have(*bracket) == between.many)
                    self.assertIn(moment, possible)
                    self.assertIs(bracket in sure_at(30, log, moment), moment in sure)
            whole = tuple(brackets(own) for own in rows)
            self.assertEqual(settled(30, whole), (0, 1, 2, 3, 4))
            self.assertEqual(earliest(30, whole), tuple(rows))
            for own in (log, whole):
                same = [at for at in range(5) if self.ends_of(own[:at] + ((),) + own[at + 1:]) == self.ends_of(own)]
                self.assertEqual(needless(30, own), tuple(same))

    def ends_of(self, log):
        return earliest(30, log), latest(30, log)

    def test_sights_without_brackets(self):
        left, right = from_left(30), from_right(30)
        log = ((),) * 5
        self.assertEqual((earliest(30, log), latest(30, log)), ((left,) * 5, (right,) * 5))
        self.assertEqual((many_at(30, log, 4), needless(30, log)), (1002242216651368, (0, 1, 2, 3, 4)))
        self.assertEqual((settled(30, log), sure_at(30, log, 2)), ((), ((1, 30),)))

    def test_one_sight(self):
        for sight in (((3, 7), (12, 20), (3, 5)), ((1, 30),), ()):
            self.assertEqual(earliest(30, (sight,)), (least_having(30, sight),))
            self.assertEqual(latest(30, (sight,)), (greatest_having(30, sight),))
            self.assertEqual(needless(30, (sight,)), () if len(sight) > 1 else (0,))


def walked_logs():
    """(factors, log, a history of it) with many factors and many moments, some sights empty, some with all brackets."""
    for seed, grouping in enumerate(large_groupings()):
        rows = [grouping]
        for step in (2, 0, 5, 1, 0, 12, 3, 40)[:1 + seed % 8]:
            rows.append(walked_from(rows[-1], seed, step))
        sights = [sorted(brackets_of(own))[(at + seed) % 4::1 + (at * 5 + seed) % 7] for at, own in enumerate(rows)]
        yield factors_in(grouping), tuple(tuple(sight) if (at + seed) % 4 else () for at, sight in enumerate(sights)), rows


class ByOtherFunctionsTest(unittest.TestCase):
    """The same told by functions of regroups.brackets and by Between, from moment to moment."""

    def ends_of(self, factors, log):
        lows, highs = [from_left(factors)], [from_right(factors)]
        for sight in log:
            lows.append(next_having(lows[-1], sight))
        for sight in log[::-1]:
            highs.append(last_having(highs[-1], sight))
        return tuple(lows[1:]), tuple(highs[:0:-1])

    def test_many_factors(self):
        for factors, log, rows in walked_logs():
            lows, highs = self.ends_of(factors, log)
            self.assertEqual((earliest(factors, log), latest(factors, log)), (lows, highs))
            self.assertIs(is_history(factors, log, tuple(rows)), True)
            same = [at for at, (low, high) in enumerate(zip(lows, highs)) if low == high]
            self.assertEqual(settled(factors, log), tuple(same))
            ahead, behind = (from_left(factors),) + lows[:-1], highs[1:] + (from_right(factors),)
            idle = [at for at, sight in enumerate(log) if has_all(ahead[at], sight) and has_all(behind[at], sight)]
            self.assertEqual(needless(factors, log), tuple(idle))
            for at, own in enumerate(rows):
                self.assertEqual(sure_at(factors, log, at), sure_between(lows[at], highs[at]))
                self.assertEqual(many_at(factors, log, at), Between(lows[at], highs[at]).many)
                wanted = lows[:at] + (own,)
                for sight in log[at + 1:]:
                    wanted += (next_having(wanted[-1], sight),)
                self.assertIs(is_history(factors, log, wanted), True)
                self.assertIs(is_history(factors, log, history_with(factors, log, at, own)), True)

    def test_brackets_of_many_factors(self):
        for factors, log, rows in list(walked_logs())[::4]:
            lows, highs = self.ends_of(factors, log)
            for bracket in every_bracket(factors)[::5]:
                sure, possible = moments_of(factors, log, bracket)
                here = list(zip(lows, highs))
                self.assertEqual(sure, tuple(at for at, (low, high) in enumerate(here)
                                             if has_all(low, (bracket,)) and has_all(high, (bracket,))))
                self.assertEqual(possible, tuple(at for at, (low, high) in enumerate(here)
                                                 if between_having(low, high, (bracket,)) is not None))

    def test_others_can_not_have_been_there(self):
        found = []
        for factors, log, rows in walked_logs():
            lows, highs = self.ends_of(factors, log)
            for at in range(len(log)):
                for own in (from_left(factors), from_right(factors), halved(1, factors), rows[0], rows[-1]):
                    can = leads_to(lows[at], own) and leads_to(own, highs[at])
                    self.assertIs(can_be_at(factors, log, at, own), can)
                    self.assertIs(history_with(factors, log, at, own) is not None, can)
                    found.append(can)
        self.assertTrue(found.count(True) > 50 and found.count(False) > 50)

    def test_first_wrong(self):
        for factors, log, rows in walked_logs():
            whole = tuple(brackets(own) for own in rows)
            self.assertIsNone(first_wrong(factors, whole))
            # Back again to the first one, if there was a step at all.
            back = first_wrong(factors, whole + whole[:1] + log)
            self.assertEqual(back, len(rows) if rows[-1] != rows[0] else first_wrong(factors, whole + log))
            if back == len(rows):
                for tell in (earliest, latest, settled, needless):
                    self.assertIsNone(tell(factors, whole + whole[:1]))

    def test_all_brackets_at_both_ends(self):
        left, right = from_left(30), from_right(30)
        log = (brackets(left), (), brackets(right)[::-1])
        self.assertEqual((earliest(30, log), latest(30, log)), ((left, left, right), (left, right, right)))
        self.assertEqual((needless(30, log), settled(30, log), first_wrong(30, log[::-1])), ((1,), (0, 2), 2))
        check_raises(self, Crossed((1, 29), (29, 30)), lambda: can_be(30, ((), brackets(left) + ((29, 30),))))


class SeveralFactorsTest(unittest.TestCase):
    """How many histories and steps, told moment by moment from those that are led to."""

    def logs_of(self, factors, seed):
        every = all_groupings(1, factors)
        rows = [every[0] if seed % 2 else from_left(factors)]
        for at in range(seed % 7):
            rows.append(walked_from(rows[-1], seed + at, (seed + at * at) % 4))
        return tuple(tuple(sorted(brackets_of(own)))[(seed + at) % 5::2 + at % 2] for at, own in enumerate(rows))

    def check(self, factors, log):
        every = all_groupings(1, factors)
        counts, least, most = {grouping: 1 for grouping in every}, dict.fromkeys(every, 0), dict.fromkeys(every, 0)
        for at, sight in enumerate(log):
            if at > 0:
                ahead = {own: [one for one in counts if own in led_to(one)] for own in every}
                least = {own: min(least[one] + fewest_steps(one, own) for one in ahead[own]) for own in every if ahead[own]}
                most = {own: max(most[one] + most_steps(one, own) for one in ahead[own]) for own in every if ahead[own]}
                counts = {own: sum(counts[one] for one in ahead[own]) for own in every if ahead[own]}
            counts = {own: many for own, many in counts.items() if set(sight) <= brackets_of(own)}
        self.assertEqual(how_many_histories(factors, log), sum(counts.values()))
        if factors < 7:
            wanted = (min(least[own] for own in counts), max(most[own] for own in counts)) if counts else None
            self.assertEqual(steps_of_log(factors, log), wanted)
        return len(counts)

    def test_some_logs(self):
        found = [self.check(factors, self.logs_of(factors, seed)) for factors in (5, 6) for seed in range(21)]
        found += [self.check(7, self.logs_of(7, seed)) for seed in (3, 6)]
        self.assertGreater(sum(many > 1 for many in found), 15)

    def test_logs_without_a_history(self):
        self.assertEqual([self.check(5, (((1, 4), (2, 4)), (), ((1, 2),))), self.check(6, (((2, 6),), ((1, 5),)))], [0, 0])


class EdgesTest(unittest.TestCase):
    def test_one_factor(self):
        log = ((), ())
        self.assertEqual((can_be(1, log), first_wrong(1, log), earliest(1, log), latest(1, log)), (True, None, (1, 1), (1, 1)))
        self.assertEqual((many_at(1, log, 1), can_be_at(1, log, 0, 1), history_with(1, log, 1, 1)), (1, True, (1, 1)))
        self.assertEqual((sure_at(1, log, 0), settled(1, log), needless(1, log)), ((), (0, 1), (0, 1)))
        self.assertEqual((how_many_histories(1, log), steps_of_log(1, log)), (1, (0, 0)))
        self.assertEqual((is_history(1, log, (1, 1)), is_history(1, log, (1,)), is_history(1, log, (True, 1))), (True, False, False))

    def test_without_a_history(self):
        log = (((2, 3),), ((1, 2),))
        for tell, more in ALL:
            wanted = {can_be: False, is_history: False, can_be_at: False, many_at: 0, how_many_histories: 0, first_wrong: 1}
            if tell in (can_be_at, history_with):
                more = (0, ((1, 2), 3))
            if tell is moments_of:
                more = ((1, 2),)
            self.assertIs(tell(3, log, *more), wanted.get(tell))

    def test_is_history_of_other_things(self):
        log = ((), ((2, 3),))
        for thing in odd_things() + [((1, 2), (1, 2)), (1, 2, 1), (((1, 2), 3),) * 3, (((1, 2), 3), None)]:
            self.assertIs(is_history(3, log, thing), False)
            self.assertIs(is_history(factors=3, log=log, thing=thing), False)
            self.assertIs(is_history(1, ((), ()), thing), False)
        self.assertIs(is_history(3, log, (((1, 2), 3), (1, (2, 3)))), True)
        self.assertIs(is_history(3, log, ((1, (2, 3)),) * 2), True)

    def test_a_sight_that_is_needless(self):
        log = (((2, 3),), ((2, 3),), ())
        self.assertEqual(needless(3, log), (1, 2))
        # Each of the two by itself could be left out, but not both.
        twice = (((1, 2), (3, 4)), ((1, 2), (3, 4)))
        self.assertEqual(needless(4, twice), ())
        self.assertEqual(needless(4, (((1, 4),), ((2, 3),), ((2, 4),))), (0,))


class ErrorsTest(unittest.TestCase):
    def check_all(self, factors, log, wanted):
        for tell, more in ALL:
            for handed in (log, as_lists(log), lists_mixed_in(log)):
                check_raises(self, wanted, lambda: tell(factors, handed, *more))
                check_raises(self, wanted, lambda: tell(log=handed, factors=factors, **dict(
                    zip(tell.__code__.co_varnames[2:], more))))

    def test_the_first_sight_with_which_something_is_wrong(self):
        for log, wanted in (
                ((((1, 5),),), NoFactor(5)), ((((0, 2),),), NoFactor(0)), ((((-HUGE, HUGE),),), NoFactor(-HUGE)),
                (((), ((2, 3), (1, 2))), Crossed((2, 3), (1, 2))), ((((1, 3), (2, 4)), ((1, 9),)), Crossed((1, 3), (2, 4))),
                ((((1, 9),), ((1, 3), (2, 4))), NoFactor(9)), ((((1, 3), (2, 4), (4, 5)),), NoFactor(5)),
                ((((1, 2),), ((3, 4),), ((2, 4), (1, 2), (1, 3))), Crossed((2, 4), (1, 2))),
                ((((2, 4),), ((1, 2),), ((1, 2), (2, 3))), Crossed((1, 2), (2, 3)))):
            self.check_all(4, log, wanted)
        self.check_all(1, (((1, 2),),), NoFactor(2))

    def test_unlike(self):
        for log in (((), ()), (((2, 4),), ((1, 2),))):
            for grouping in (1, (1, 2), from_left(3), from_right(5), from_left(30)):
                for moment in (0, 1):
                    for tell in (can_be_at, history_with):
                        check_raises(self, Unlike(), lambda: tell(4, log, moment, grouping))
                        check_raises(self, Unlike(), lambda: tell(4, as_lists(log), moment, as_lists(grouping)))

    def test_no_factor_of_a_bracket_asked_for(self):
        for log in (((), ()), (((2, 4),), ((1, 2),))):
            for bracket, factor in (((1, 5), 5), ((0, 9), 0), ((-1, 2), -1), ((5, HUGE), 5), ((2, HUGE), HUGE)):
                check_raises(self, NoFactor(factor), lambda: moments_of(4, log, bracket))
                check_raises(self, NoFactor(factor), lambda: moments_of(bracket=list(bracket), log=as_lists(log), factors=4))


class GeneralRulesTest(unittest.TestCase):
    def test_lists_for_tuples_and_arguments_by_name(self):
        log, grouping = (((1, 2),), (), ((2, 4),)), ((1, (2, 3)), 4)
        behind = {is_history: (earliest(4, log),), many_at: (1,), can_be_at: (1, grouping), history_with: (1, grouping),
                  sure_at: (1,), moments_of: ((3, 4),)}
        for tell, _ in ALL:
            more = behind.get(tell, ())
            names = tell.__code__.co_varnames[2:2 + len(more)]
            wanted = repr(tell(4, log, *more))
            for change in (as_lists, lists_mixed_in):
                handed = change(log)
                given = more if tell is is_history else tuple(change(own) for own in more)
                self.assertEqual(repr(tell(4, handed, *given)), wanted)
                self.assertEqual(repr(tell(log=handed, factors=4, **dict(zip(names, given)))), wanted)
                self.assertEqual(handed, change(log))

    def test_groupings_are_groupings(self):
        log = [[[1, 2]], [], [[2, 4]]]
        for history in (earliest(4, log), latest(4, log), history_with(4, log, 1, [[1, [2, 3]], 4])):
            self.assertIs(type(history), tuple)
            self.assertTrue(all(is_grouping(grouping) for grouping in history))


if __name__ == "__main__":
    unittest.main()
