"""[2]: what the document says of all functions and classes, looked at for each of them."""

import importlib
import inspect
import unittest

from regroups.between import Between
from regroups.counted import Routes
from regroups.desk import Desk
from regroups.finder import Finder
from regroups.groupings import from_left, from_right
from regroups.prices import Prices
from regroups.product import Product
from regroups.values import teller
from tests.samples import as_lists, halved, lists_mixed_in, odd_things
from tests.test_interface import CLASSES, INTERFACE

LEFT, RIGHT, HALF = from_left(5), from_right(5), halved(1, 5)
NEAR, TWOS = ((1, (2, 3)), 4), ((1, 2), (3, 4))
SIGHTS = (((1, 2),), (), ((2, 4),))

# For each function the arguments of some calls.
CALLS = {
    "groupings": {
        "is_grouping": [(NEAR,), ((1, 3),)], "factors_in": [(HALF,)], "reaches": [(HALF,), (1,)], "starts": [(HALF,)],
        "is_reaches": [((3, 3, 4),)], "is_starts": [((1, 2, 1),)], "of_reaches": [((3, 3, 4),), ((),)],
        "of_starts": [((1, 2, 1),)], "brackets": [(HALF,)], "from_left": [(4,)], "from_right": [(4,)], "mirrored": [(NEAR,)],
    },
    "steps": {
        "open_joins": [(LEFT,)], "step_at": [(LEFT, 1)], "nexts": [(LEFT,), (1,)], "back_joins": [(RIGHT,)],
        "step_back": [(RIGHT, 4)], "aheads": [(RIGHT,)], "step_brackets": [(LEFT, 2)],
        "by_steps": [(LEFT, (1, 1, 2)), (LEFT, ())],
    },
    "order": {
        "leads_to": [(LEFT, HALF), (RIGHT, LEFT)], "why_not": [(RIGHT, LEFT)], "is_between": [(LEFT, HALF, RIGHT)],
        "stand_of": [(NEAR, TWOS)], "unlike_joins": [(NEAR, TWOS)], "greatest_ahead": [((NEAR, TWOS),)],
        "least_behind": [((NEAR, TWOS),)], "least_with": [(NEAR, from_right(4))], "greatest_with": [(from_left(4), TWOS)],
        "first_ones": [((NEAR, TWOS, NEAR),)], "last_ones": [((NEAR, TWOS, NEAR),)],
    },
    "routes": {
        "fewest_steps": [(LEFT, RIGHT), (RIGHT, LEFT)], "most_steps": [(LEFT, HALF)], "hops": [(LEFT, RIGHT)],
        "sure_reaches": [(LEFT, RIGHT, 1)], "possible_reaches": [(LEFT, RIGHT, 1)],
        "route": [(LEFT, RIGHT), (LEFT, RIGHT, 5), (LEFT, LEFT), (RIGHT, LEFT)], "is_route": [(NEAR, NEAR, (NEAR,))],
        "next_joins": [(LEFT, RIGHT)], "by_joins": [(LEFT, (1, 1)), (LEFT, ())], "joins_of": [((LEFT,),)],
        "on_fewest": [(LEFT, HALF, RIGHT)], "on_most": [(LEFT, HALF, RIGHT)],
    },
    "counts": {
        "how_many": [(5,)], "with_first_reach": [(5, 3)], "with_last_join": [(5, 3)], "with_one_bracket": [(5, 2, 4)],
        "with_open_joins": [(5, 2)], "with_joins_from_one": [(5, 2)], "steps_in_all": [(5,)], "leading_pairs": [(5,)],
        "by_longest": [(5,)], "many_behind": [(HALF,)], "many_ahead": [(HALF,)],
    },
    "parts": {
        "only": [(HALF, (1, 3, 4)), (HALF, (2,))], "without": [(HALF, 3)], "put_in": [(HALF, 2, NEAR)], "beside": [(HALF, NEAR)],
        "halves": [(HALF, 3)], "how_many_wholes": [(LEFT, RIGHT)], "least_whole": [(LEFT, RIGHT)],
        "greatest_whole": [(LEFT, RIGHT)], "whole_at": [(LEFT, RIGHT, 1)], "number_of_whole": [(HALF, 3)],
        "grown": [(HALF, 2), (1, 0)], "least_by": [(5, ((1, 3), (2, 4)))], "greatest_by": [(5, ((2, 1),))],
        "follows": [(5, ((1, 3),), (1, 4))], "wishes_of": [(RIGHT,)], "bars_of": [(LEFT,)],
    },
    "brackets": {
        "is_brackets": [(4, ((1, 2), (1, 4)))], "crossing": [(((1, 2), (2, 3)),)], "parts_of": [(5, ((2, 4),)), (1, ())],
        "least_having": [(5, ((2, 4),))], "greatest_having": [(5, ((2, 4),))], "how_many_having": [(5, ((2, 4), (2, 4)))],
        "has_all": [(HALF, ((1, 3),))], "next_having": [(LEFT, ((2, 4),))], "last_having": [(RIGHT, ((2, 4),))],
        "sure_between": [(LEFT, HALF)], "possible_between": [(LEFT, HALF)], "between_having": [(LEFT, RIGHT, ((2, 3),))],
        "family_of": [(LEFT, RIGHT)], "how_many_sets": [(5, 2)], "how_many_avoiding": [(5, ((2, 3), (3, 4)))],
        "one_avoiding": [(5, ((2, 3), (3, 4)))],
    },
    "values": {
        "is_table": [(((0, 1), (1, 0)),)], "is_rising": [(teller(),)], "value_of": [(NEAR, teller(), (1, 0, 1, 1))], "teller": [()],
        "telling_values": [(RIGHT, LEFT), (LEFT, RIGHT)], "is_telling": [(NEAR, TWOS, (1, 1, 1, 0))],
        "values_by": [(teller(), (1, 1, 1, 1)), (teller(), (1, 1, 1, 1), NEAR, from_right(4))],
        "grouping_with": [(teller(), (1, 1, 1, 1), 3), (teller(), (1, 1, 1, 1), 3, NEAR, NEAR)], "signs": [(HALF,)],
        "how_many_signed": [((1, -1, 1, -1),)], "nth_signed": [((1, -1, 1, -1), 1)],
        "minus_ends": [((5, 2, 7, -1),), ((5, 2, 7, -1), NEAR, None)],
        "minus_groupings": [((5, 2, 7, -1),), ((5, 2, 7, -1), NEAR, NEAR)],
    },
    "pictures": {
        "right_depths": [(HALF,)], "left_depths": [(HALF,)], "depths": [(HALF,)], "is_right_depths": [((0, 1, 1),)],
        "is_left_depths": [((2, 1, 0),)], "is_depths": [((1, 2, 2),)], "of_right_depths": [((0, 1, 2, 1),)],
        "of_depths": [((1, 2, 2),)], "diagonals": [(HALF,)], "triangles": [(HALF,)], "ears": [(HALF,)],
        "is_diagonals": [(4, ((0, 2), (2, 4)))], "of_diagonals": [(4, ((0, 3), (1, 3)))], "turned": [(HALF, -2)],
        "turns_back": [(HALF,)], "marks": [(HALF,)], "is_marks": [((1, 0, 0),)], "of_marks": [((1, 0, 1, 0, 0),)],
        "marks_place": [((0, 0, 1, 1, 0),)],
    },
    "logs": {
        "can_be": [(4, SIGHTS)], "first_wrong": [(4, (((2, 4),), ((1, 2),)))], "is_history": [(4, SIGHTS, (NEAR,) * 3)],
        "earliest": [(4, SIGHTS)], "latest": [(4, SIGHTS)], "many_at": [(4, SIGHTS, 1)], "can_be_at": [(4, SIGHTS, 1, NEAR)],
        "history_with": [(4, SIGHTS, 1, NEAR)], "sure_at": [(4, SIGHTS, 2)], "moments_of": [(4, SIGHTS, (1, 2))],
        "settled": [(4, SIGHTS)], "needless": [(4, SIGHTS)], "how_many_histories": [(4, SIGHTS)], "steps_of_log": [(4, SIGHTS)],
    },
    "texts": {
        "grouping_text": [(HALF,)], "grouping_of": [("((1 2) 3)",)], "named_text": [((1, (2, 3)), ("x", "y", "x"))],
        "named_of": [("(x (y x))",)], "reaches_text": [((3, 3, 4),), ((),)], "reaches_of": [("3 3 4",)],
        "lines_text": [((NEAR, TWOS),)], "lines_of": [("(1 2)\n(1 2)",)],
    },
    "desk": {"answers": [("factors 3\ntext\nstep 1\nopen",)]},
}

# For each class objects made of these arguments, and calls of the methods that change nothing.
OBJECTS = {
    Between: ((LEFT, RIGHT), {
        "number_of": [(HALF,)], "every": [()], "how_many_have": [(2, 4)], "share": [(2, 4)], "how_many_reach": [(1, 3)],
        "reaches_of": [(1,)], "__contains__": [(HALF,), (1,)], "__getitem__": [(3,)]}),
    Prices: ((5, (3, 1, 4, 1, 5, 9), (2, 6, 5, 3, 5), ((1, 3, -8), (2, 4, 9))), {
        "of": [(HALF,)], "change": [(LEFT, 1)], "least": [(), (LEFT, HALF)], "greatest": [(), (LEFT, HALF)],
        "mean": [(), (LEFT, HALF)], "how_many": [(), (None, HALF)], "cheapest": [(), (0, LEFT, HALF)],
        "is_cheapest": [(HALF,), (HALF, HALF, HALF)], "lowest_pass": [(LEFT, RIGHT)], "pass_route": [(LEFT, RIGHT)],
        "falling_route": [(HALF, HALF)]}),
    Finder: ((5,), {
        "how_many_with": [((2, 4),)], "share": [((2, 4),)], "has": [(HALF,)], "ask": [()], "__getitem__": [(3,)],
        "__len__": [()]}),
    Routes: ((LEFT, RIGHT), {
        "through": [(HALF,)], "share": [(HALF,)], "sure": [()], "rank": [((1, 1, 1, 2, 2, 3),)], "beginning": [((1, 2),), ((),)],
        "__contains__": [((1, 2),)], "__getitem__": [(3,)]}),
    Product: ((("a", "b", "c", "d", "e"), HALF), {
        "together": [("a", "c")], "depth": [("a",)], "__contains__": [("a",)], "__getitem__": [(2,)], "__len__": [()]}),
    Desk: ((5,), {"__len__": [()]}),
}

# Calls of the methods that change an object, one behind another.
DEEDS = {
    Finder: (("answer", ((2, 3), False)), ("answer", ((2, 4), True)), ("back", ())),
    Product: (("step", (1,)), ("swap_in", ("b", ("x", "y", "z"), (1, (2, 3)))), ("take_out", ("d",)), ("unstep", (3,)),
              ("undo", ())),
    Desk: (("answer", ("step 1",)), ("answer", ("turn",)), ("answer", ("undo",)), ("answer", ("put (1 2)",))),
}


def handed_over(function, args, change):
    """The arguments changed, but for those called thing."""
    names = list(inspect.signature(function).parameters)[-len(args):] if args else []
    if list(inspect.signature(function).parameters)[:1] != ["self"]:
        names = list(inspect.signature(function).parameters)[:len(args)]
    return [own if name == "thing" else change(own) for name, own in zip(names, args)]


def named(function, args):
    names = [name for name in inspect.signature(function).parameters]
    return dict(zip(names, args))


def spoil(value):
    """Change all lists in the value."""
    if isinstance(value, list):
        for item in value:
            spoil(item)
        value.append("more")
        value.reverse()
    elif isinstance(value, tuple):
        for item in value:
            spoil(item)


def lists_at_the_top(value):
    return list(value) if isinstance(value, tuple) else value


def kinds_of(value):
    """The value and the class of each part of it."""
    if isinstance(value, (list, tuple)):
        return type(value), [kinds_of(item) for item in value]
    return type(value), value


class FunctionsTest(unittest.TestCase):
    def rows(self):
        for file_name, calls in CALLS.items():
            module = importlib.import_module(f"regroups.{file_name}")
            for name, every in calls.items():
                for args in every:
                    yield f"{file_name}.{name}", getattr(module, name), args

    def test_none_is_left_out(self):
        for file_name, headings in INTERFACE.items():
            names = [heading[:heading.index("(")] for heading in headings]
            self.assertEqual(sorted(CALLS[file_name]), sorted(names))
        self.assertEqual(sorted(CALLS), sorted(INTERFACE))

    def test_the_same_call_again_with_lists_and_by_names(self):
        for place, function, args in self.rows():
            wanted = kinds_of(function(*args))
            self.assertEqual(kinds_of(function(*args)), wanted, place)
            self.assertEqual(kinds_of(function(**named(function, args))), wanted, place)
            for change in (as_lists, lists_mixed_in, lists_at_the_top):
                handed = handed_over(function, args, change)
                self.assertEqual(kinds_of(function(*handed)), wanted, place)
                self.assertEqual(kinds_of(function(**named(function, handed))), wanted, place)
                self.assertEqual(kinds_of(handed), kinds_of(handed_over(function, args, change)), place)

    def test_lists_are_new(self):
        for place, function, args in self.rows():
            wanted = kinds_of(function(*args))
            handed = handed_over(function, args, as_lists)
            for own in (args, handed):
                spoil(function(*own))
                self.assertEqual(kinds_of(function(*args)), wanted, place)
            # What came back does not change with what was handed in.
            found = function(*handed)
            for own in handed:
                spoil(own)
            self.assertEqual(kinds_of(found), wanted, place)
            self.assertEqual(kinds_of(function(*args)), wanted, place)

    def test_several_results_are_a_list_and_all_else_is_of_plain_kinds(self):
        for place, function, args in self.rows():
            for kind in kinds_in(kinds_of(function(*args))):
                self.assertIn(kind, (int, bool, str, tuple, list, type(None)), place)

    def test_things_may_be_anything(self):
        for file_name, headings in INTERFACE.items():
            module = importlib.import_module(f"regroups.{file_name}")
            for heading in headings:
                if "thing" in heading:
                    name = heading[:heading.index("(")]
                    for args in CALLS[file_name][name]:
                        for thing in odd_things() + [Finder(1), Product(("a",)), Routes(1, 1), Desk(1), teller]:
                            found = getattr(module, name)(*args[:-1], thing)
                            self.assertIs(found, name in ("is_grouping",) and thing == 1 and type(thing) is int)


def kinds_in(told):
    kind, inner = told
    return [kind] + [own for item in inner for own in kinds_in(item)] if isinstance(inner, list) else [kind]


def told_by(thing, calls):
    """All that the calls tell of the object, and its properties."""
    names = CLASSES[type(thing).__name__][1]
    found = [(name, kinds_of(getattr(thing, name))) for name in names]
    for name, every in calls.items():
        for args in every:
            found.append((name, kinds_of(getattr(type(thing), name)(thing, *args))))
    return found


class ObjectsTest(unittest.TestCase):
    def test_none_is_left_out(self):
        self.assertEqual(sorted(own.__name__ for own in OBJECTS), sorted(CLASSES))
        for own, (args, calls) in OBJECTS.items():
            headings = {heading.partition("(")[0] for heading in CLASSES[own.__name__][2]}
            done = set(calls) | {name for name, args in DEEDS.get(own, ())}
            self.assertEqual(headings - done, headings & {"__init__", "__eq__", "__iter__", "twin", "leads_to", "unstep"} - done)

    def test_objects_copy_their_arguments_and_do_not_change_them(self):
        for own, (args, calls) in OBJECTS.items():
            wanted = told_by(own(*args), calls)
            for change in (as_lists, lists_mixed_in, lists_at_the_top):
                handed = [change(each) for each in args]
                names = list(inspect.signature(own).parameters)
                first, second = own(*handed), own(**dict(zip(names, handed)))
                self.assertEqual(kinds_of(handed), kinds_of([change(each) for each in args]))
                for each in handed:
                    spoil(each)
                self.assertEqual(told_by(first, calls), wanted)
                self.assertEqual(told_by(second, calls), wanted)
                if own is not Desk:
                    self.assertIs(first == own(*args) and second == first, True)

    def test_the_same_call_again_with_lists_and_by_names(self):
        for own, (args, calls) in OBJECTS.items():
            thing = own(*args)
            before = told_by(thing, calls)
            for name, every in calls.items():
                method = getattr(thing, name)
                for given in every:
                    wanted = kinds_of(method(*given))
                    for change in (as_lists, lists_mixed_in, lists_at_the_top):
                        handed = handed_over(method, given, change)
                        self.assertEqual(kinds_of(method(*handed)), wanted)
                        if not name.startswith("__"):
                            self.assertEqual(kinds_of(method(**named(method, handed))), wanted)
                        self.assertEqual(kinds_of(handed), kinds_of(handed_over(method, given, change)))
                        spoil(method(*handed))
                        self.assertEqual(kinds_of(method(*given)), wanted)
            self.assertEqual(told_by(thing, calls), before)

    def test_lists_of_properties_are_new(self):
        for own, (args, calls) in OBJECTS.items():
            thing = own(*args)
            for name, given in DEEDS.get(own, ())[:2]:
                getattr(thing, name)(*given)
            before = [kinds_of(getattr(thing, name)) for name in CLASSES[own.__name__][1]]
            for name in CLASSES[own.__name__][1]:
                spoil(getattr(thing, name))
            self.assertEqual([kinds_of(getattr(thing, name)) for name in CLASSES[own.__name__][1]], before)

    def test_deeds_with_lists_and_by_names(self):
        for own, deeds in DEEDS.items():
            args, calls = OBJECTS[own]
            first, second, third = own(*args), own(*args), own(*args)
            for name, given in deeds:
                wanted = kinds_of(getattr(first, name)(*given))
                handed = [as_lists(each) for each in given]
                self.assertEqual(kinds_of(getattr(second, name)(*handed)), wanted)
                self.assertEqual(handed, [as_lists(each) for each in given])
                for each in handed:
                    spoil(each)
                handed = [lists_at_the_top(each) for each in given]
                self.assertEqual(kinds_of(getattr(third, name)(**named(getattr(third, name), handed))), wanted)
                names = CLASSES[own.__name__][1]
                self.assertEqual([kinds_of(getattr(second, name)) for name in names],
                                 [kinds_of(getattr(first, name)) for name in names])
                self.assertEqual([kinds_of(getattr(third, name)) for name in names],
                                 [kinds_of(getattr(first, name)) for name in names])

    def test_unlike_anything_of_another_class(self):
        every = [own(*args) for own, (args, calls) in OBJECTS.items()]
        for at, thing in enumerate(every):
            for place, other in enumerate(every):
                self.assertIs(thing == other, at == place)
                self.assertIs(thing != other, at != place)


if __name__ == "__main__":
    unittest.main()
