"""[2], [3], [15]: a grouping to be found."""

import unittest

from regroups import finder as module
from regroups.errors import Gainsaid, NoFactor, NoJoin, NoNumber, NothingDone, Unlike
from regroups.finder import Finder
from regroups.groupings import factors_in, from_left, from_right, is_grouping
from regroups.prices import Prices
from tests.examples import check_raises, run_examples
from tests.samples import (
    HUGE, all_groupings, as_lists, brackets_of, halved, large_groupings, lists_mixed_in, odd_things, place_of,
)
from tests.test_prices import fraction_of

EXAMPLES = """
    >>> finder = Finder(4)
    >>> finder.left, finder.known, finder.doubtful, finder.ask(), finder.share((2, 3)), finder.how_many_with((1, 4)), finder.found, finder[0], finder[4]
    (5, ((1, 4),), ((1, 2), (1, 3), (2, 3), (2, 4), (3, 4)), (1, 2), (2, 5), 5, None, (1, (2, (3, 4))), (((1, 2), 3), 4))
    >>> finder.answer((1, 2), False), finder.ask(), finder.answer((2, 4), True), finder.known, finder.has((1, ((2, 3), 4))), finder.has(((1, 2), (3, 4))), finder[1]
    (3, (1, 3), 2, ((1, 4), (2, 4)), True, False, (1, ((2, 3), 4)))
    >>> finder.answer((3, 4), False), finder.found, finder.ask(), finder.answers, len(finder), finder.back(), finder.twin() == finder, finder == Finder(4)
    (1, (1, ((2, 3), 4)), None, [((1, 2), False), ((2, 4), True), ((3, 4), False)], 3, 2, True, False)
    >>> finder.answer((1, 3), True)
    raises Gainsaid()
    >>> finder.share((2, 5))
    raises NoFactor(factor=5)
    >>> Finder(1).back()
    raises NothingDone()
"""


def every_bracket(factors):
    return [(first, last) for first in range(1, factors) for last in range(first + 1, factors + 1)]


def left_of(factors, answers):
    """Those that go with all answers, in the order by outermost joins."""
    return sorted([grouping for grouping in all_groupings(1, factors)
                   if all((bracket in brackets_of(grouping)) == here for bracket, here in answers)], key=place_of)


def state_of(finder):
    """All that can be seen of a Finder."""
    return (finder.factors, finder.answers, finder.left, finder.known, finder.doubtful, finder.found, len(finder),
            finder.ask(), [finder[number] for number in range(min(finder.left, 50))])


class ExamplesTest(unittest.TestCase):
    def test_examples_of_chapter_14(self):
        run_examples(self, EXAMPLES, vars(module))


class ByTheDefinitionTest(unittest.TestCase):
    def check_all(self, finder, factors, answers):
        every = left_of(factors, answers)
        counts = {bracket: sum(bracket in brackets_of(grouping) for grouping in every) for bracket in every_bracket(factors)}
        many = len(every)
        self.assertEqual((finder.factors, finder.left, finder.answers, len(finder)), (factors, many, answers, len(answers)))
        self.assertEqual(finder.known, tuple(sorted(bracket for bracket in counts if counts[bracket] == many)))
        self.assertEqual(finder.doubtful, tuple(sorted(bracket for bracket in counts if 0 < counts[bracket] < many)))
        self.assertEqual(finder.found, every[0] if many == 1 else None)
        self.assertEqual([finder[number] for number in range(many)], every)
        worse = [(max(count, many - count), bracket) for bracket, count in counts.items()]
        self.assertEqual(finder.ask(), min(worse)[1] if many > 1 else None)
        for bracket, count in counts.items():
            self.assertEqual(finder.how_many_with(bracket), count)
            self.assertEqual(finder.share(bracket), fraction_of(count, many))
        for grouping in all_groupings(1, factors):
            self.assertIs(finder.has(grouping), grouping in every)
        for number in (-HUGE, -1, many, HUGE):
            check_raises(self, NoNumber(number), lambda: finder[number])

    def test_answers(self):
        for factors in range(1, 7):
            for seed in range(12):
                finder, answers = Finder(factors), []
                self.check_all(finder, factors, answers)
                for at in range(min(seed % 7, 2 * factors)):
                    spans = every_bracket(factors)
                    if not spans:
                        break
                    bracket, here = spans[(seed * 7 + at * 5 + at * at) % len(spans)], (seed + at * 3) % 5 < 2
                    wanted = len(left_of(factors, answers + [(bracket, here)]))
                    if wanted == 0:
                        before = state_of(finder)
                        check_raises(self, Gainsaid(), lambda: finder.answer(bracket, here))
                        self.assertEqual(state_of(finder), before)
                        continue
                    answers.append((bracket, here))
                    self.assertEqual(finder.answer(bracket, here), wanted)
                self.check_all(finder, factors, answers)
                while answers:
                    answers.pop()
                    self.assertEqual(finder.back(), len(left_of(factors, answers)))
                    if len(answers) % 2:
                        self.check_all(finder, factors, answers)
                check_raises(self, NothingDone(), finder.back)
                self.assertIs(finder == Finder(factors), True)

    def test_each_grouping_is_found_by_asking(self):
        for factors in range(1, 7):
            for grouping in all_groupings(1, factors):
                finder = Finder(factors)
                while finder.found is None:
                    many, bracket = finder.left, finder.ask()
                    worse = max(finder.how_many_with(bracket), many - finder.how_many_with(bracket))
                    self.assertLess(worse, many)
                    self.assertLessEqual(finder.answer(bracket, bracket in brackets_of(grouping)), worse)
                self.assertEqual((finder.found, finder[0], finder.ask(), finder.left), (grouping, grouping, None, 1))
                self.assertEqual((finder.known, finder.doubtful), (tuple(sorted(brackets_of(grouping))), ()))


class LargeOnesTest(unittest.TestCase):
    def test_thirty_factors(self):
        finder, many = Finder(30), 1002242216651368
        self.assertEqual((finder.left, finder.known, len(finder.doubtful), finder.found), (many, ((1, 30),), 434, None))
        self.assertEqual((finder[0], finder[many - 1]), (from_right(30), from_left(30)))
        check_raises(self, NoNumber(many), lambda: finder[many])
        plain = Prices(30)
        for number in (1, many // 3, many // 2, many - 2):
            self.assertEqual(finder[number], plain.cheapest(number))
        self.assertEqual(finder.how_many_with((1, 29)) + finder.how_many_with((2, 30)) + sum(
            Prices(join).how_many() * Prices(30 - join).how_many() for join in range(2, 29)), many)

    def test_each_is_found(self):
        for grouping in [halved(1, 30), from_left(30), from_right(30)] + large_groupings()[::9]:
            finder = Finder(factors_in(grouping))
            while finder.found is None:
                bracket = finder.ask()
                with_it = finder.how_many_with(bracket)
                worse = max(with_it, finder.left - with_it)
                for other in finder.doubtful:
                    other_with = finder.how_many_with(other)
                    self.assertLessEqual((worse, bracket), (max(other_with, finder.left - other_with), other))
                finder.answer(bracket, bracket in brackets_of(grouping))
                self.assertIs(finder.has(grouping), True)
            self.assertEqual(finder.found, grouping)

    def test_as_prices_tell(self):
        answers = [((3, 9), True), ((5, 6), False), ((1, 12), True), ((20, 28), True), ((22, 25), False), ((13, 14), False)]
        finder = Finder(30)
        for bracket, here in answers:
            finder.answer(bracket, here)
        prices = Prices(30, brackets=[bracket + (-1 if here else 1,) for bracket, here in answers])
        self.assertEqual((prices.least(), prices.how_many()), (-3, finder.left))
        for number in (0, 1, finder.left // 2, finder.left - 1):
            self.assertEqual(finder[number], prices.cheapest(number))
        for bracket in ((3, 9), (5, 6), (4, 9), (13, 30), (2, 12), (1, 30), (20, 21)):
            more = Prices(30, brackets=[own + (-1 if here else 1,) for own, here in answers] + [bracket + (-100,)])
            wanted = more.how_many() if more.least() <= -103 else 0
            self.assertEqual(finder.how_many_with(bracket), 0 if (bracket, False) in answers else wanted)


class ChangeTest(unittest.TestCase):
    def test_answers_that_are_sure_are_kept(self):
        finder = Finder(4)
        self.assertEqual((finder.answer((1, 4), True), finder.answer([1, 4], True), len(finder)), (5, 5, 2))
        self.assertEqual(finder.answers, [((1, 4), True), ((1, 4), True)])
        self.assertEqual((finder.answer((2, 3), True), finder.answer((1, 2), False), finder.answer((2, 3), True)), (2, 2, 2))
        self.assertEqual([finder.back() for _ in range(5)], [2, 2, 5, 5, 5])
        check_raises(self, NothingDone(), finder.back)
        self.assertEqual((finder.left, len(finder)), (5, 0))

    def test_answers_by_which_none_would_be_left(self):
        finder = Finder(4)
        check_raises(self, Gainsaid(), lambda: finder.answer((1, 4), False))
        finder.answer((1, 3), True)
        before = state_of(finder)
        for bracket, here in (((2, 4), True), ((3, 4), True), ((1, 3), False), ((1, 4), False), ([3, 4], True)):
            check_raises(self, Gainsaid(), lambda: finder.answer(bracket, here))
            check_raises(self, Gainsaid(), lambda: finder.answer(here=here, bracket=bracket))
            self.assertEqual(state_of(finder), before)
        finder.answer((1, 2), False)
        check_raises(self, Gainsaid(), lambda: finder.answer((2, 3), False))
        self.assertEqual(finder.back(), 2)

    def test_twins_share_nothing(self):
        finder = Finder(5)
        finder.answer((2, 4), True)
        twin = finder.twin()
        before = state_of(finder)
        self.assertEqual(state_of(twin), before)
        self.assertIs(type(twin), Finder)
        twin.answer((3, 4), True)
        self.assertEqual(state_of(finder), before)
        self.assertIs(twin == finder, False)
        twin.back()
        twin.back()
        check_raises(self, NothingDone(), twin.back)
        self.assertEqual(state_of(finder), before)
        finder.back()
        self.assertIs(finder == twin, True)

    def test_arguments_are_copied_and_lists_are_new(self):
        finder, bracket = Finder(4), [2, 3]
        finder.answer(bracket, True)
        bracket[1] = 4
        told = finder.answers
        self.assertEqual(repr(told), "[((2, 3), True)]")
        told.append(((1, 2), True))
        told.clear()
        self.assertEqual((finder.answers, finder.left), ([((2, 3), True)], 2))

    def test_properties_have_no_setters(self):
        finder = Finder(4)
        for name in ("factors", "answers", "left", "known", "doubtful", "found"):
            told = getattr(finder, name)
            with self.assertRaises(AttributeError):
                setattr(finder, name, told)


class SameTest(unittest.TestCase):
    def finders(self):
        for factors in range(1, 5):
            spans = every_bracket(factors)
            answers = [[]] + [[(bracket, here)] for bracket in spans for here in (True, False)]
            answers += [[(one, True), (other, False)] for one in spans for other in spans]
            answers += [[(one, False), (other, False)] for one in spans for other in spans if one < other]
            for row in answers:
                if left_of(factors, row):
                    finder = Finder(factors)
                    for bracket, here in row:
                        finder.answer(bracket, here)
                    yield factors, left_of(factors, row), finder

    def test_same_if_the_same_are_left(self):
        every = list(self.finders())
        for factors, own, finder in every:
            for others, left, other in every:
                self.assertIs(finder == other, own == left)
                self.assertIs(finder != other, own != left)

    def test_unlike_anything_of_another_class(self):
        finder = Finder(3)
        for thing in [thing for thing in odd_things()] + [3, {}, object(), Finder, (1, (2, 3))]:
            self.assertIs(finder == thing, False)
            self.assertIs(thing == finder, False)
            self.assertIs(finder != thing, True)
        self.assertIs(Finder(1) == Finder(2), False)

    def test_as_many_left_are_not_the_same_ones(self):
        one, other = Finder(30), Finder(30)
        one.answer((1, 2), True)
        other.answer((2, 3), True)
        self.assertEqual(one.left, other.left)
        self.assertIs(one == other, False)
        for finder, bracket in ((one, (2, 3)), (other, (1, 2))):
            finder.answer(bracket, False)
        self.assertIs(one == other, False)
        one.back()
        other.back()
        other.back()
        other.answer((1, 2), True)
        other.answer((2, 3), False)
        other.answer((1, 30), True)
        self.assertIs(one == other, True)


class EdgesTest(unittest.TestCase):
    def test_one_factor(self):
        finder = Finder(1)
        self.assertEqual((finder.left, finder.known, finder.doubtful, finder.found, finder.ask()), (1, (), (), 1, None))
        self.assertEqual((finder.answers, len(finder), finder[0], finder.has(1), finder.factors), ([], 0, 1, True, 1))
        check_raises(self, NoNumber(1), lambda: finder[1])
        for here in (True, False):
            check_raises(self, NoFactor(2), lambda: finder.answer((1, 2), here))
        self.assertIs(finder == Finder(factors=1), True)

    def test_two_factors(self):
        finder = Finder(2)
        self.assertEqual((finder.left, finder.known, finder.found, finder.ask()), (1, ((1, 2),), (1, 2), None))
        check_raises(self, Gainsaid(), lambda: finder.answer((1, 2), False))
        self.assertEqual((finder.answer((1, 2), True), finder.share((1, 2))), (1, (1, 1)))

    def test_no_factor_ahead_of_all_else(self):
        finder = Finder(4)
        finder.answer((1, 2), True)
        before = state_of(finder)
        for bracket, factor in (((2, 5), 5), ((0, 2), 0), ((-3, 9), -3), ((5, 6), 5), ((1, HUGE), HUGE), ((-HUGE, 2), -HUGE)):
            for handed in (bracket, list(bracket)):
                check_raises(self, NoFactor(factor), lambda: finder.how_many_with(handed))
                check_raises(self, NoFactor(factor), lambda: finder.share(bracket=handed))
                for here in (True, False):
                    check_raises(self, NoFactor(factor), lambda: finder.answer(handed, here))
        self.assertEqual(state_of(finder), before)

    def test_has_other_things(self):
        for finder in (Finder(1), Finder(2), Finder(3), Finder(30)):
            for thing in odd_things() + [[1, 2], (2, 1), (1, (2, [3]))]:
                self.assertIs(finder.has(thing), False)
                self.assertIs(finder.has(thing=thing), False)
            for grouping in (1, (1, 2), (1, (2, 3)), halved(1, 30)):
                self.assertIs(finder.has(grouping), factors_in(grouping) == finder.factors)

    def test_it_can_not_be_gone_through(self):
        for finder in (Finder(1), Finder(4)):
            for action in (lambda: iter(finder), lambda: list(finder), lambda: [grouping for grouping in finder]):
                with self.assertRaises(TypeError):
                    action()

    def test_shares_are_in_lowest_terms(self):
        finder = Finder(5)
        self.assertEqual((finder.share((1, 5)), finder.share([1, 2]), finder.how_many_with([1, 2])), ((1, 1), (5, 14), 5))
        finder.answer((1, 2), False)
        self.assertEqual((finder.share((1, 2)), finder.share((2, 3)), finder.share((3, 5))), ((0, 1), (5, 9), (2, 9)))

    def test_groupings_are_groupings(self):
        finder = Finder(6)
        self.assertTrue(all(is_grouping(finder[number]) for number in range(finder.left)))
        self.assertIs(finder.has(as_lists(finder[0])), False)
        self.assertIs(finder.has(lists_mixed_in(finder[0])), False)
        self.assertIs(finder.has(NoJoin(1)) or finder.has(Unlike()), False)


if __name__ == "__main__":
    unittest.main()
