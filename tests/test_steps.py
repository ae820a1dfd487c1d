"""[2], [3], [5]: steps."""

import unittest

from regroups import groupings, steps
from regroups.errors import NoJoin, NotOpen
from regroups.groupings import brackets, factors_in, from_left, from_right, is_grouping, mirrored, reaches, starts
from regroups.steps import (
    aheads, back_joins, by_steps, nexts, open_joins, step_at, step_back, step_brackets,
)
from tests.examples import check_raises, run_examples
from tests.samples import all_groupings, as_lists, large_groupings, lists_mixed_in, small_groupings, steps_of

EXAMPLES = """
    >>> grouping = ((1, (2, 3)), 4)
    >>> open_joins(grouping), step_at(grouping, 1), step_brackets(grouping, 1), nexts(from_left(4))
    ((1,), (1, ((2, 3), 4)), ((1, 3), (2, 4)), [((1, (2, 3)), 4), ((1, 2), (3, 4))])
    >>> back_joins((1, ((2, 3), 4))), step_back((1, ((2, 3), 4)), 3), aheads(from_right(4)), by_steps(from_left(4), (1, 1, 2)), nexts(1)
    ((3,), ((1, (2, 3)), 4), [((1, 2), (3, 4)), (1, ((2, 3), 4))], (1, (2, (3, 4))), [])
    >>> step_at(grouping, 2)
    raises NotOpen(join=2)
    >>> step_at(grouping, 4)
    raises NoJoin(join=4)
"""

FAR_JOINS = (-10 ** 5000, -31, -1, 0, 31, 10 ** 5000)


def tried_groupings():
    return small_groupings() + large_groupings()


def steps_back_of(factors):
    """{grouping: {join whose start rose: grouping ahead}} for all groupings of so many factors."""
    found = {grouping: {} for grouping in all_groupings(1, factors)}
    for grouping in found:
        for behind, risen, goes, comes in steps_of(grouping).values():
            found[behind][risen] = grouping
    return found


class ExamplesTest(unittest.TestCase):
    def test_examples_of_chapter_4(self):
        run_examples(self, EXAMPLES, {**vars(groupings), **vars(steps)})


class StepsTest(unittest.TestCase):
    def test_steps_by_the_definition(self):
        for grouping in tried_groupings():
            wanted = steps_of(grouping)
            self.assertEqual(open_joins(grouping), tuple(sorted(wanted)))
            self.assertEqual(nexts(grouping), [wanted[join][0] for join in sorted(wanted)])
            for join, (behind, risen, goes, comes) in wanted.items():
                self.assertEqual(step_at(grouping, join), behind)
                self.assertEqual(step_brackets(grouping, join), (goes, comes))

    def test_steps_back_by_the_definition(self):
        for factors in range(1, 8):
            for grouping, wanted in steps_back_of(factors).items():
                self.assertEqual(back_joins(grouping), tuple(sorted(wanted)))
                self.assertEqual(aheads(grouping), [wanted[join] for join in sorted(wanted)])
                for join, ahead in wanted.items():
                    self.assertEqual(step_back(grouping, join), ahead)

    def test_steps_back_are_steps_from_behind(self):
        for grouping in tried_groupings():
            factors = factors_in(grouping)
            wanted = {factors - join: row for join, row in steps_of(mirrored(grouping)).items()}
            self.assertEqual(back_joins(grouping), tuple(sorted(wanted)))
            self.assertEqual(aheads(grouping), [mirrored(wanted[join][0]) for join in sorted(wanted)])

    def test_a_step_and_the_step_back_undo_one_another(self):
        for grouping in tried_groupings():
            for join in open_joins(grouping):
                behind = step_at(grouping, join)
                risen = reaches(grouping)[join - 1]
                self.assertIn(risen, back_joins(behind))
                self.assertEqual(step_back(behind, risen), grouping)
            for join in back_joins(grouping):
                ahead = step_back(grouping, join)
                moved = starts(grouping)[join - 1] - 1
                self.assertIn(moved, open_joins(ahead))
                self.assertEqual(step_at(ahead, moved), grouping)

    def test_a_step_changes_one_start_one_reach_and_one_bracket(self):
        for grouping in tried_groupings():
            for join in open_joins(grouping):
                behind = step_at(grouping, join)
                risen = reaches(grouping)[join - 1]
                wanted_reaches, wanted_starts = list(reaches(grouping)), list(starts(grouping))
                wanted_reaches[join - 1] = reaches(grouping)[risen - 1]
                wanted_starts[risen - 1] = join + 1
                self.assertEqual(list(reaches(behind)), wanted_reaches)
                self.assertEqual(list(starts(behind)), wanted_starts)
                goes, comes = step_brackets(grouping, join)
                self.assertEqual(set(brackets(grouping)) - set(brackets(behind)), {goes})
                self.assertEqual(set(brackets(behind)) - set(brackets(grouping)), {comes})

    def test_one_factor_and_two(self):
        for grouping in (1, (1, 2)):
            self.assertEqual((open_joins(grouping), back_joins(grouping)), ((), ()))
            self.assertEqual((nexts(grouping), aheads(grouping)), ([], []))
            self.assertEqual(by_steps(grouping, ()), grouping)
            self.assertEqual(by_steps(grouping, []), grouping)

    def test_from_left_and_from_right(self):
        for factors in range(2, 31):
            self.assertEqual(open_joins(from_left(factors)), tuple(range(1, factors - 1)))
            self.assertEqual(back_joins(from_left(factors)), ())
            self.assertEqual(open_joins(from_right(factors)), ())
            self.assertEqual(back_joins(from_right(factors)), tuple(range(2, factors)))

    def test_by_steps(self):
        for grouping in tried_groupings():
            self.assertEqual(by_steps(grouping, ()), grouping)
            joins, now = [], grouping
            while open_joins(now) and len(joins) < 20:
                join = open_joins(now)[len(joins) % len(open_joins(now))]
                joins.append(join)
                now = step_at(now, join)
            self.assertEqual(by_steps(grouping, tuple(joins)), now)
            self.assertEqual(by_steps(grouping, joins), now)

    def test_from_left_to_from_right_by_steps_from_the_end(self):
        for factors in range(1, 31):
            self.assertEqual(by_steps(from_left(factors), tuple(range(factors - 2, 0, -1))), from_right(factors))


class WrongJoinsTest(unittest.TestCase):
    def test_no_join(self):
        for grouping in tried_groupings():
            factors = factors_in(grouping)
            for join in FAR_JOINS + (factors, factors + 1):
                self.check_each(NoJoin(join), grouping, join, (step_at, step_back, step_brackets))
                check_raises(self, NoJoin(join), lambda: by_steps(grouping, (join,)))

    def test_not_open(self):
        for grouping in tried_groupings():
            for join in range(1, factors_in(grouping)):
                if join not in open_joins(grouping):
                    self.check_each(NotOpen(join), grouping, join, (step_at, step_brackets))
                    check_raises(self, NotOpen(join), lambda: by_steps(grouping, (join,)))
                if join not in back_joins(grouping):
                    self.check_each(NotOpen(join), grouping, join, (step_back,))

    def check_each(self, wanted, grouping, join, functions):
        for function in functions:
            check_raises(self, wanted, lambda: function(grouping, join))
            check_raises(self, wanted, lambda: function(as_lists(grouping), join=join))

    def test_by_steps_tells_the_first_that_cannot_be_done(self):
        left = from_left(4)
        for joins, wanted in (
                ((1, 2), NotOpen(2)), ((1, 3, 9), NotOpen(3)), ((1, 4, 3), NoJoin(4)), ((1, 1, 2, 2), NotOpen(2)),
                ((1, 1, 0, 2), NoJoin(0)), ((3, 1), NotOpen(3)), ((-1, 3), NoJoin(-1)), ((2, 1, 1), NotOpen(1)),
                ((2, 2, 5), NotOpen(2)), ((1, 1, 2, 7), NoJoin(7))):
            check_raises(self, wanted, lambda: by_steps(left, joins))
            check_raises(self, wanted, lambda: by_steps(grouping=as_lists(left), joins=list(joins)))
        check_raises(self, NoJoin(1), lambda: by_steps(1, (1, 2)))


class GeneralRulesTest(unittest.TestCase):
    def test_lists_for_tuples_and_arguments_by_name(self):
        for grouping in small_groupings(6) + large_groupings()[::5]:
            for change in (as_lists, lists_mixed_in):
                handed = change(grouping)
                for tell in (open_joins, nexts, back_joins, aheads):
                    self.assertEqual(repr(tell(handed)), repr(tell(grouping)))
                    self.assertEqual(repr(tell(grouping=handed)), repr(tell(grouping)))
                for tell, joins in ((step_at, open_joins), (step_brackets, open_joins), (step_back, back_joins)):
                    for join in joins(grouping):
                        self.assertEqual(repr(tell(handed, join)), repr(tell(grouping, join)))
                        self.assertEqual(repr(tell(grouping=handed, join=join)), repr(tell(grouping, join)))
                for joins in [()] + [(join,) for join in open_joins(grouping)]:
                    told = repr(by_steps(grouping, joins))
                    self.assertEqual(repr(by_steps(handed, list(joins))), told)
                    self.assertEqual(repr(by_steps(grouping=handed, joins=list(joins))), told)
                self.assertEqual(handed, change(grouping))

    def test_what_is_returned_is_a_grouping(self):
        for grouping in small_groupings(5):
            for made in nexts(as_lists(grouping)) + aheads(as_lists(grouping)) + [by_steps(as_lists(grouping), [])]:
                self.assertIs(is_grouping(made), True)

    def test_joins_are_not_changed(self):
        joins = [1, 1, 2]
        self.assertEqual(by_steps(from_left(4), joins), from_right(4))
        self.assertEqual(joins, [1, 1, 2])

    def test_lists_are_new(self):
        grouping = from_left(5)
        for tell, of in ((nexts, from_left(5)), (aheads, from_right(5)), (nexts, from_right(5)), (aheads, 1)):
            first = tell(of)
            wanted = list(first)
            self.assertIs(type(first), list)
            first.append("more")
            self.assertEqual(tell(of), wanted)
            self.assertIsNot(tell(of), tell(of))
        self.assertEqual(grouping, from_left(5))

    def test_sets_are_tuples(self):
        for grouping in small_groupings(5):
            for told in (open_joins(grouping), back_joins(grouping), brackets(grouping)):
                self.assertIs(type(told), tuple)
                self.assertEqual(told, tuple(sorted(set(told))))


if __name__ == "__main__":
    unittest.main()
