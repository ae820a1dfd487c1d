"""[21]: the names of the interface, their parameters, and the files in which they are defined."""

import importlib
import inspect
import unittest

from regroups.errors import NoJoin
from regroups.groupings import factors_in

INTERFACE = {
    "groupings": (
        "is_grouping(thing)", "factors_in(grouping)", "reaches(grouping)", "starts(grouping)", "is_reaches(thing)",
        "is_starts(thing)", "of_reaches(rows)", "of_starts(rows)", "brackets(grouping)", "from_left(factors)",
        "from_right(factors)", "mirrored(grouping)",
    ),
    "steps": (
        "open_joins(grouping)", "step_at(grouping, join)", "nexts(grouping)", "back_joins(grouping)",
        "step_back(grouping, join)", "aheads(grouping)", "step_brackets(grouping, join)", "by_steps(grouping, joins)",
    ),
    "order": (
        "leads_to(one, other)", "why_not(one, other)", "is_between(low, grouping, high)", "stand_of(one, other)",
        "unlike_joins(one, other)", "greatest_ahead(groupings)", "least_behind(groupings)", "least_with(one, goal)",
        "greatest_with(one, goal)", "first_ones(groupings)", "last_ones(groupings)",
    ),
    "routes": (
        "fewest_steps(one, other)", "most_steps(one, other)", "hops(one, other)", "sure_reaches(one, other, join)",
        "possible_reaches(one, other, join)", "route(one, other, many=None)", "is_route(one, other, thing)",
        "next_joins(one, other)", "by_joins(one, joins)", "joins_of(groupings)", "on_fewest(one, grouping, other)",
        "on_most(one, grouping, other)",
    ),
    "counts": (
        "how_many(factors)", "with_first_reach(factors, goal)", "with_last_join(factors, join)",
        "with_one_bracket(factors, first, last)", "with_open_joins(factors, many)",
        "with_joins_from_one(factors, many)", "steps_in_all(factors)", "leading_pairs(factors)", "by_longest(factors)",
        "many_behind(grouping)", "many_ahead(grouping)",
    ),
    "parts": (
        "only(grouping, factors)", "without(grouping, factor)", "put_in(grouping, factor, other)", "beside(one, other)",
        "halves(grouping, factor)", "how_many_wholes(one, other)", "least_whole(one, other)",
        "greatest_whole(one, other)", "whole_at(one, other, number)", "number_of_whole(grouping, factor)",
        "grown(grouping, gap)", "least_by(factors, wishes)", "greatest_by(factors, bars)",
        "follows(factors, wishes, wish)", "wishes_of(grouping)", "bars_of(grouping)",
    ),
    "brackets": (
        "is_brackets(factors, thing)", "crossing(brackets)", "parts_of(factors, brackets)",
        "least_having(factors, brackets)", "greatest_having(factors, brackets)", "how_many_having(factors, brackets)",
        "has_all(grouping, brackets)", "next_having(grouping, brackets)", "last_having(grouping, brackets)",
        "sure_between(one, other)", "possible_between(one, other)", "between_having(one, other, brackets)",
        "family_of(one, other)", "how_many_sets(factors, size)", "how_many_avoiding(factors, brackets)",
        "one_avoiding(factors, brackets)",
    ),
    "values": (
        "is_table(thing)", "is_rising(table)", "value_of(grouping, table, values)", "teller()",
        "telling_values(one, other)", "is_telling(one, other, thing)", "values_by(table, values, low=None, high=None)",
        "grouping_with(table, values, value, low=None, high=None)", "signs(grouping)", "how_many_signed(row)",
        "nth_signed(row, number)", "minus_ends(numbers, low=None, high=None)",
        "minus_groupings(numbers, low=None, high=None)",
    ),
    "pictures": (
        "right_depths(grouping)", "left_depths(grouping)", "depths(grouping)", "is_right_depths(thing)",
        "is_left_depths(thing)", "is_depths(thing)", "of_right_depths(row)", "of_depths(row)", "diagonals(grouping)",
        "triangles(grouping)", "ears(grouping)", "is_diagonals(factors, thing)", "of_diagonals(factors, pairs)",
        "turned(grouping, times)", "turns_back(grouping)", "marks(grouping)", "is_marks(thing)", "of_marks(row)",
        "marks_place(row)",
    ),
    "logs": (
        "can_be(factors, log)", "first_wrong(factors, log)", "is_history(factors, log, thing)", "earliest(factors, log)",
        "latest(factors, log)", "many_at(factors, log, moment)", "can_be_at(factors, log, moment, grouping)",
        "history_with(factors, log, moment, grouping)", "sure_at(factors, log, moment)",
        "moments_of(factors, log, bracket)", "settled(factors, log)", "needless(factors, log)",
        "how_many_histories(factors, log)", "steps_of_log(factors, log)",
    ),
    "texts": (
        "grouping_text(grouping)", "grouping_of(text)", "named_text(grouping, names)", "named_of(text)",
        "reaches_text(rows)", "reaches_of(text)", "lines_text(groupings)", "lines_of(text)",
    ),
    "desk": ("answers(text)",),
}

# For each class: its file, its properties without setters, its methods. The names of the parameters
# of operators are free.
CLASSES = {
    "Between": ("between", ("low", "high", "many", "steps", "weight"), (
        "__init__(self, low, high)", "number_of(self, grouping)", "every(self, *, most=2000)",
        "how_many_have(self, first, last)", "share(self, first, last)", "how_many_reach(self, join, goal)",
        "reaches_of(self, join)", "__eq__(self, other)", "__getitem__", "__contains__", "__iter__",
    )),
    "Prices": ("prices", ("factors", "sizes", "weights"), (
        "__init__(self, factors, sizes=None, weights=None, brackets=())", "of(self, grouping)",
        "change(self, grouping, join)", "least(self, low=None, high=None)", "greatest(self, low=None, high=None)",
        "mean(self, low=None, high=None)", "how_many(self, low=None, high=None)",
        "cheapest(self, number=0, low=None, high=None)", "is_cheapest(self, thing, low=None, high=None)",
        "lowest_pass(self, one, goal)", "pass_route(self, one, goal)", "falling_route(self, one, goal)",
        "__eq__(self, other)",
    )),
    "Finder": ("finder", ("factors", "answers", "left", "known", "doubtful", "found"), (
        "__init__(self, factors)", "how_many_with(self, bracket)", "share(self, bracket)", "has(self, thing)",
        "ask(self)", "answer(self, bracket, here)", "back(self)", "twin(self)", "__len__", "__getitem__", "__iter__",
        "__eq__(self, other)",
    )),
    "Routes": ("counted", ("start", "end", "many", "lengths", "average"), (
        "__init__(self, one, other)", "through(self, grouping)", "share(self, grouping)", "sure(self)",
        "rank(self, joins)", "beginning(self, joins)", "__getitem__", "__contains__", "__iter__", "__eq__(self, other)",
    )),
    "Product": ("product", ("names", "grouping", "deeds"), (
        "__init__(self, names, grouping=None)", "step(self, join)", "unstep(self, join)",
        "swap_in(self, name, names, grouping=None)", "take_out(self, name)", "undo(self)", "together(self, name, mate)",
        "depth(self, name)", "leads_to(self, other)", "twin(self)", "__getitem__", "__contains__", "__len__", "__iter__",
        "__eq__(self, other)",
    )),
    "Desk": ("desk", ("now",), ("__init__(self, factors)", "answer(self, request)", "__len__")),
}


class InterfaceTest(unittest.TestCase):
    def test_functions_stand_in_their_files_with_their_parameters(self):
        for file_name, headings in INTERFACE.items():
            module = importlib.import_module(f"regroups.{file_name}")
            for heading in headings:
                name = heading[:heading.index("(")]
                function = getattr(module, name)
                self.assertTrue(inspect.isfunction(function), heading)
                self.assertEqual(function.__module__, f"regroups.{file_name}")
                self.assertEqual(name + str(inspect.signature(function)), heading)

    def test_classes_stand_in_their_files_with_their_own_methods(self):
        for class_name, (file_name, properties, headings) in CLASSES.items():
            own = getattr(importlib.import_module(f"regroups.{file_name}"), class_name)
            self.assertEqual((own.__module__, own.__bases__), (f"regroups.{file_name}", (object,)))
            for name in properties:
                self.assertIsInstance(vars(own)[name], property)
                self.assertIsNone(vars(own)[name].fset)
            for heading in headings:
                method = vars(own)[heading.partition("(")[0]]
                self.assertTrue(inspect.isfunction(method), heading)
                if "(" in heading:
                    self.assertEqual(method.__name__ + str(inspect.signature(method)), heading)

    def test_bounds_are_no_walls(self):
        deep = (1, 2)
        for factor in range(3, 101):
            deep = (deep, factor)
        self.assertEqual(factors_in(deep), 100)
        steps = importlib.import_module("regroups.steps")
        self.assertEqual(steps.open_joins(deep), tuple(range(1, 99)))
        with self.assertRaises(NoJoin):
            steps.step_at(deep, 100)


if __name__ == "__main__":
    unittest.main()
