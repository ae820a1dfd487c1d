"""[2], [3], [13]: values, and differences."""

import unittest
from itertools import product

from regroups import values as module
from regroups.errors import NoNumber, NotBehind, Unlike
from regroups.groupings import factors_in, from_left, from_right, is_grouping
from regroups.order import leads_to
from regroups.values import (
    grouping_with, how_many_signed, is_rising, is_table, is_telling, minus_ends, minus_groupings, nth_signed, signs,
    teller, telling_values, value_of, values_by,
)
from tests.examples import check_raises, run_examples
from tests.samples import (
    HUGE, all_groupings, as_lists, halved, large_groupings, led_to, lists_mixed_in, meant, odd_things, place_of,
    small_groupings, some_ends, steps_of,
)

EXAMPLES = """
    >>> left, near, twos, far, right = (((1, 2), 3), 4), ((1, (2, 3)), 4), ((1, 2), (3, 4)), (1, ((2, 3), 4)), (1, (2, (3, 4)))
    >>> value_of(((1, 2), 3), teller(), (1, 1, 1)), value_of((1, (2, 3)), teller(), (1, 1, 1)), is_rising(teller()), is_rising(((0, 1), (1, 0))), is_table(((0, 1), (1, 0))), is_table(((0, 2), (1, 0)))
    (2, 3, True, False, True, False)
    >>> is_telling(near, twos, (1, 1, 1, 0)), is_telling(near, twos, (0, 1, 1, 1)), is_telling(twos, near, (0, 1, 1, 1)), telling_values(left, near), is_telling(twos, near, telling_values(twos, near))
    (True, False, True, None, True)
    >>> values_by(teller(), (1, 1, 1, 1)), values_by(teller(), (1, 1, 1, 1), near), grouping_with(teller(), (1, 1, 1, 1), 2) == left, grouping_with(teller(), (1, 1, 1, 1), 0)
    ([(2, 1), (3, 4)], [(3, 3)], True, None)
    >>> signs(twos), signs(right), signs(near), how_many_signed((1, -1, 1, -1)), nth_signed((1, -1, 1, -1), 0) == right, nth_signed((1, -1, 1, -1), 1) == near, how_many_signed((1, 1)), how_many_signed((1,))
    ((1, -1, -1, 1), (1, -1, 1, -1), (1, -1, 1, -1), 2, True, True, 0, 1)
    >>> minus_ends((5, 2, 7, -1)), minus_ends((5, 2, 7, -1), near), minus_groupings((5, 2, 7, -1))[0] == twos, minus_ends((3,))
    ((-5, 11), (9, 11), True, (3, 3))
    >>> value_of((1, 2), teller(), (1,))
    raises Unlike()
    >>> nth_signed((1, 1), 0)
    raises NoNumber(number=0)
"""


def table_of(size, seed):
    """A table of so many rows, the same one each time."""
    return tuple(tuple((x * x * (seed + 1) + y * (3 + seed) + x * y + seed) % size for y in range(size))
                 for x in range(size))


def row_of(length, size, seed):
    """So many numbers below size, the same ones each time."""
    return tuple((at * at * (seed + 2) + at * 5 + seed) % size for at in range(length))


def made_of(part, table, values):
    """The value, straight from the definition."""
    if isinstance(part, int):
        return values[part - 1]
    return table[made_of(part[0], table, values)][made_of(part[1], table, values)]


def difference(part, numbers):
    if isinstance(part, int):
        return numbers[part - 1]
    return difference(part[0], numbers) - difference(part[1], numbers)


def signs_of(part, sign=1):
    if isinstance(part, int):
        return (sign,)
    return signs_of(part[0], sign) + signs_of(part[1], -sign)


def rises(table):
    """Whether the table is rising, straight from the definition."""
    numbers = range(len(table))
    return all(table[x][y] <= table[z][y] and table[y][x] <= table[y][z]
               for x in numbers for y in numbers for z in range(x, len(table))) and all(
        table[table[x][y]][z] <= table[x][table[y][z]] for x, y, z in product(numbers, repeat=3))


class ExamplesTest(unittest.TestCase):
    def test_examples_of_chapter_12(self):
        run_examples(self, EXAMPLES, vars(module))


class TableTest(unittest.TestCase):
    def test_tables(self):
        for size in range(1, 9):
            for seed in range(4):
                table = table_of(size, seed)
                self.assertIs(is_table(table), True)
                self.assertIs(is_table(thing=table), True)
                self.assertIs(is_table(list(table)), False)
                self.assertIs(is_table((list(table[0]),) + table[1:]), False)
                self.assertIs(is_table(table[:-1]), False)
                self.assertIs(is_table(table + table[:1]), False)
                for worth in (size, -1, HUGE, True, False, None, "0", (0,)):
                    self.assertIs(is_table(((worth,) + table[0][1:],) + table[1:]), False)
                    self.assertIs(is_table(table[:-1] + (table[-1][:-1] + (worth,),)), False)
        self.assertIs(is_table(table_of(9, 0)), False)
        self.assertIs(is_table(((0,),)), True)

    def test_other_things(self):
        for thing in odd_things():
            self.assertIs(is_table(thing), False)
        self.assertIs(is_table(((0,) * 100000,)), False)
        self.assertIs(is_table(((0,),) * 100000), False)

    def test_rising(self):
        self.assertIs(is_rising(((0,),)), True)
        for numbers in product(range(2), repeat=4):
            table = (numbers[:2], numbers[2:])
            self.assertIs(is_rising(table), rises(table))
        found = 0
        for numbers in product(range(3), repeat=9):
            table = (numbers[:3], numbers[3:6], numbers[6:])
            wanted = rises(table)
            self.assertIs(is_rising(table), wanted)
            found += wanted
        self.assertGreater(found, 10)
        eights = tuple(tuple(min(7, x + y) for y in range(8)) for x in range(8))
        self.assertIs(is_rising(eights), True)
        self.assertIs(is_rising(eights[:7] + (eights[7][:7] + (6,),)), False)
        self.assertIs(is_rising(((0, 0), (1, 0))), False)
        self.assertIs(is_rising(((0, 1), (0, 0))), False)

    def test_by_a_rising_table_no_step_makes_a_value_less(self):
        tables = [teller()] + [table for table in (((0, 1), (1, 1)), ((0, 0), (0, 1)), ((0, 1), (0, 1)))]
        for table in tables:
            self.assertIs(is_rising(table), True)
            for grouping in small_groupings(5):
                for seed in range(4):
                    values = row_of(factors_in(grouping), len(table), seed)
                    for row in steps_of(grouping).values():
                        self.assertLessEqual(value_of(grouping, table, values), value_of(row[0], table, values))


class ValueTest(unittest.TestCase):
    def test_value(self):
        for at, grouping in enumerate(small_groupings(6) + large_groupings()):
            for size in (1, 2, 5, 8):
                table, values = table_of(size, at % 5), row_of(factors_in(grouping), size, at % 7)
                self.assertEqual(value_of(grouping, table, values), made_of(grouping, table, values))
        self.assertEqual(value_of(1, teller(), (3,)), 3)

    def test_far_beyond_the_bounds(self):
        for grouping in (from_left(2000), from_right(2000)):
            self.assertEqual(value_of(grouping, ((0, 1), (1, 0)), (1,) * 2000), 0)

    def test_unlike(self):
        for grouping in (1, (1, 2), from_left(4), from_right(30)):
            for many in (0, 1, 2, 3, 5, 29, 31):
                if many != factors_in(grouping):
                    for kind in (tuple, list):
                        check_raises(self, Unlike(), lambda: value_of(grouping, teller(), kind([1] * many)))
                        check_raises(self, Unlike(), lambda: value_of(as_lists(grouping), teller(), kind([1] * many)))


class TellerTest(unittest.TestCase):
    def test_it_tells_the_order(self):
        self.assertEqual(repr(teller()), "((0, 1, 2, 3), (1, 2, 3, 3), (2, 2, 3, 3), (3, 3, 3, 3))")
        for factors in range(1, 5):
            every = all_groupings(1, factors)
            rows = list(product(range(4), repeat=factors))
            made = {grouping: [value_of(grouping, teller(), row) for row in rows] for grouping in every}
            for one in every:
                for other in every:
                    none_greater = all(near <= far for near, far in zip(made[one], made[other]))
                    self.assertIs(other in led_to(one), none_greater)

    def test_telling_values(self):
        for factors in range(1, 7):
            every = all_groupings(1, factors)
            for one in every:
                for other in every[::1 + factors // 6 * 3]:
                    self.check_telling(one, other, other in led_to(one))

    def test_telling_values_of_large_ones(self):
        ones = large_groupings()
        for one, other in list(zip(ones, ones[1:])) + list(zip(ones[1:], ones)):
            if factors_in(one) == factors_in(other):
                self.check_telling(one, other, leads_to(one, other))
        self.check_telling(from_right(30), from_left(30), False)

    def check_telling(self, one, other, leads):
        found = telling_values(one, other)
        if leads:
            self.assertIsNone(found)
            return
        self.assertIs(type(found), tuple)
        self.assertEqual((len(found), sorted(found)[-3:], sum(found)), (factors_in(one), [1, 1, 1], 3))
        self.assertGreater(made_of(one, teller(), found), made_of(other, teller(), found))
        self.assertIs(is_telling(one, other, found), True)
        self.assertIs(is_telling(other, one, found), False)
        self.assertIs(is_telling(one, other, list(found)), False)
        self.assertEqual(telling_values(other=as_lists(other), one=as_lists(one)), found)

    def test_is_telling(self):
        for factors in range(1, 6):
            rows = [row for many in (factors, factors + 1) for row in product((0, 1, 2), repeat=many)]
            for one in all_groupings(1, factors)[::2]:
                for other in all_groupings(1, factors)[::3]:
                    for row in rows[::1 + len(rows) // 150]:
                        wanted = sorted(row) == [0] * (factors - 3) + [1] * 3 and (
                            made_of(one, teller(), row) > made_of(other, teller(), row))
                        self.assertIs(is_telling(one, other, row), wanted)

    def test_is_telling_of_other_things(self):
        one, other = (1, (2, 3)), ((1, 2), 3)
        self.assertIs(is_telling(one, other, (1, 1, 1)), True)
        for thing in odd_things() + [(1, 1, True), (True, 1, 1), [1, 1, 1], (1, 1), (1, 1, 1, 0), (3, 0, 0), (2, 1, 0),
                                     (1, 1, 1.0), (4, -2, 1), (1, 1, "1"), (1, 1, (1,))]:
            self.assertIs(is_telling(one, other, thing), False)
            self.assertIs(is_telling(other=other, one=one, thing=thing), False)
            self.assertIs(is_telling(1, 1, thing), False)

    def test_unlike(self):
        for one, other in ((1, (1, 2)), ((1, 2), ((1, 2), 3)), (from_left(30), from_right(29))):
            for near, far in ((one, other), (other, one), (as_lists(one), as_lists(other))):
                check_raises(self, Unlike(), lambda: telling_values(near, far))
                for thing in (None, (1, 1, 1), telling_values):
                    check_raises(self, Unlike(), lambda: is_telling(near, far, thing))


class ByTest(unittest.TestCase):
    def test_values_by_and_grouping_with(self):
        for factors in range(1, 7):
            ends = some_ends(factors) if factors < 6 else [(None, None), (None, halved(1, 6)), (halved(1, 6), None)]
            for seed, (low, high) in enumerate(ends):
                size = 1 + seed % 8
                table, values = table_of(size, seed % 5), row_of(factors, size, seed)
                every = meant(low, high, factors)
                made = [made_of(grouping, table, values) for grouping in every]
                self.assertEqual(values_by(table, values, low, high), [(x, made.count(x)) for x in sorted(set(made))])
                for value in (-HUGE, -1) + tuple(range(9)) + (HUGE,):
                    found = grouping_with(table, values, value, low, high)
                    if value in made:
                        self.assertIn(found, every)
                        self.assertEqual(made_of(found, table, values), value)
                    else:
                        self.assertIsNone(found)

    def test_thirty_factors(self):
        left, right = from_left(30), from_right(30)
        for size in (1, 2, 4, 8):
            table, values = table_of(size, 2), row_of(30, size, 1)
            found = values_by(table, values)
            self.assertEqual(sum(many for value, many in found), 1002242216651368)
            self.assertEqual(found, values_by(table, values, left, right))
            for value, many in found:
                self.assertEqual(made_of(grouping_with(table, values, value), table, values), value)
            middle = halved(1, 30)
            for low, high in ((middle, None), (None, middle), (middle, middle)):
                for value, many in values_by(table, values, low, high):
                    own = grouping_with(table, values, value, low, high)
                    self.assertEqual(made_of(own, table, values), value)
                    self.assertTrue(low is None or leads_to(low, own))
                    self.assertTrue(high is None or leads_to(own, high))
            self.assertEqual(values_by(table, values, middle, middle), [(made_of(middle, table, values), 1)])

    def test_one_factor(self):
        self.assertEqual(values_by(((0,),), (0,)), [(0, 1)])
        self.assertEqual(values_by(teller(), (3,), 1, 1), [(3, 1)])
        self.assertEqual((grouping_with(teller(), (3,), 3), grouping_with(teller(), (3,), 2)), (1, None))


class SignsTest(unittest.TestCase):
    def test_signs(self):
        for grouping in small_groupings(7) + large_groupings():
            self.assertEqual(signs(grouping), signs_of(grouping))
            self.assertIs(type(signs(grouping)), tuple)

    def test_how_many_and_which(self):
        for factors in range(1, 8):
            by_signs = {}
            for grouping in all_groupings(1, factors):
                by_signs.setdefault(signs_of(grouping), []).append(grouping)
            for row in product((1, -1), repeat=factors):
                wanted = sorted(by_signs.get(row, []), key=place_of)
                self.assertEqual(how_many_signed(row), len(wanted))
                self.assertEqual(bool(wanted), row[0] == 1 and row[1:2] != (1,))
                self.assertEqual([nth_signed(row, number) for number in range(len(wanted))], wanted)
                for number in (-HUGE, -1, len(wanted), len(wanted) + 1, HUGE):
                    check_raises(self, NoNumber(number), lambda: nth_signed(row, number))
                    check_raises(self, NoNumber(number), lambda: nth_signed(number=number, row=list(row)))

    def test_thirty_factors(self):
        for row in ((1, -1) * 15, (1,) + (-1,) * 29, (1, -1) + (1,) * 28, signs_of(halved(1, 30))):
            many = how_many_signed(row)
            numbers = sorted({0, many // 7, many // 2, many - 1})
            found = [nth_signed(row, number) for number in numbers]
            self.assertEqual([signs(grouping) for grouping in found], [row] * len(found))
            places = [place_of(grouping) for grouping in found]
            self.assertEqual(places, sorted(set(places)))
            check_raises(self, NoNumber(many), lambda: nth_signed(row, many))
        self.assertEqual(how_many_signed((1, 1) + (-1,) * 28), 0)
        self.assertEqual(how_many_signed((-1,) * 30), 0)

    def test_all_rows_together_are_all_groupings(self):
        self.assertEqual(sum(how_many_signed((1, -1) + row) for row in product((1, -1), repeat=8)), 4862)

    def test_one_factor(self):
        self.assertEqual((signs(1), how_many_signed((1,)), how_many_signed((-1,)), nth_signed((1,), 0)), ((1,), 1, 0, 1))
        check_raises(self, NoNumber(0), lambda: nth_signed((-1,), 0))
        check_raises(self, NoNumber(1), lambda: nth_signed((1,), 1))


class MinusTest(unittest.TestCase):
    def test_by_the_definition(self):
        for factors in range(1, 6):
            for seed, (low, high) in enumerate(some_ends(factors)):
                numbers = tuple((at * at * 7 + at * seed + seed) % 19 - 9 for at in range(factors))
                every = meant(low, high, factors)
                made = [difference(grouping, numbers) for grouping in every]
                self.assertEqual(minus_ends(numbers, low, high), (min(made), max(made)))
                least, greatest = minus_groupings(numbers, low, high)
                self.assertTrue(least in every and greatest in every)
                self.assertEqual((difference(least, numbers), difference(greatest, numbers)), (min(made), max(made)))

    def test_without_bounds(self):
        for factors in range(2, 31):
            for seed in range(3):
                numbers = tuple((at * at * 7 + at * seed + seed) % 23 - 11 for at in range(factors))
                others = sum(abs(number) for number in numbers[2:])
                wanted = numbers[0] - numbers[1] - others, numbers[0] - numbers[1] + others
                self.assertEqual(minus_ends(numbers), wanted)
                found = minus_groupings(numbers)
                self.assertIs(type(found), tuple)
                self.assertEqual(tuple(difference(grouping, numbers) for grouping in found), wanted)

    def test_great_numbers(self):
        numbers = (HUGE, -HUGE, 3, HUGE)
        self.assertEqual(minus_ends(numbers), (HUGE - 3, 3 * HUGE + 3))

    def test_one_number(self):
        for number in (0, 3, -7, HUGE):
            self.assertEqual((minus_ends((number,)), minus_groupings([number])), ((number, number), (1, 1)))
            self.assertEqual(minus_ends((number,), 1, 1), (number, number))

    def test_bounds_that_are_equal(self):
        for grouping in large_groupings()[::5]:
            numbers = tuple(range(factors_in(grouping)))
            wanted = difference(grouping, numbers)
            self.assertEqual(minus_ends(numbers, grouping, grouping), (wanted, wanted))
            self.assertEqual(minus_groupings(numbers, grouping, grouping), (grouping, grouping))


class BoundsTest(unittest.TestCase):
    def calls(self, many, low, high):
        values = (1,) * many
        return [lambda: values_by(teller(), values, low, high), lambda: grouping_with(teller(), values, 2, low, high),
                lambda: minus_ends(values, low, high), lambda: minus_groupings(values, low, high),
                lambda: values_by(high=high, low=low, values=values, table=teller()),
                lambda: grouping_with(high=high, low=low, value=2, values=values, table=teller()),
                lambda: minus_ends(high=high, low=low, numbers=values),
                lambda: minus_groupings(high=high, low=low, numbers=values)]

    def test_unlike(self):
        right = from_right(4)
        for other in (1, (1, 2), from_left(3), from_left(5), from_right(30)):
            for low, high in ((other, None), (None, other), (other, other), (other, right), (right, other),
                              (as_lists(other), None)):
                for call in self.calls(4, low, high):
                    check_raises(self, Unlike(), call)

    def test_not_behind(self):
        for factors in (3, 4):
            for low in all_groupings(1, factors):
                for high in all_groupings(1, factors):
                    if high not in led_to(low):
                        for call in self.calls(factors, low, high):
                            check_raises(self, NotBehind(), call)
        for call in self.calls(30, as_lists(from_right(30)), as_lists(from_left(30))):
            check_raises(self, NotBehind(), call)


class GeneralRulesTest(unittest.TestCase):
    def test_lists_for_tuples_and_arguments_by_name(self):
        table, values, low, high = table_of(5, 1), row_of(6, 5, 2), from_left(6), halved(1, 6)
        wanted = (is_rising(table), value_of(high, table, values), values_by(table, values, low, high),
                  grouping_with(table, values, values_by(table, values, low, high)[0][0], low, high), signs(high),
                  how_many_signed(signs(high)), nth_signed(signs(high), 0), minus_ends(values, low, high),
                  minus_groupings(values, low, high), telling_values(high, low), is_telling(high, low, (1, 0, 0, 0, 1, 1)))
        for change in (as_lists, lists_mixed_in):
            own, given, near, far, row = map(change, (table, values, low, high, signs(high)))
            found = (is_rising(table=own), value_of(values=given, table=own, grouping=far),
                     values_by(high=far, low=near, values=given, table=own),
                     grouping_with(own, given, values_by(table, values, low, high)[0][0], high=far, low=near),
                     signs(grouping=far), how_many_signed(row=row), nth_signed(number=0, row=row),
                     minus_ends(given, high=far, low=near), minus_groupings(numbers=given, low=near, high=far),
                     telling_values(other=near, one=far), is_telling(far, near, thing=(1, 0, 0, 0, 1, 1)))
            self.assertEqual(repr(found), repr(wanted))
            self.assertEqual((own, given, near, far, row), tuple(map(change, (table, values, low, high, signs(high)))))

    def test_lists_are_new(self):
        first = values_by(teller(), (1, 1, 1))
        wanted = list(first)
        first.clear()
        self.assertEqual(values_by(teller(), (1, 1, 1)), wanted)
        for grouping in minus_groupings((3, 1, 2), [1, [2, 3]], [1, [2, 3]]):
            self.assertIs(is_grouping(grouping), True)


if __name__ == "__main__":
    unittest.main()
