"""[2], [3], [18]: a product."""

import unittest

from regroups import product as module
from regroups.errors import LastOne, NoJoin, NoName, NotOpen, NothingDone, Taken
from regroups.groupings import factors_in, from_left, from_right, is_grouping
from regroups.order import leads_to
from regroups.parts import only, put_in, without
from regroups.product import Product
from regroups.steps import back_joins, step_at, step_back
from tests.examples import check_raises, run_examples
from tests.samples import (
    HUGE, as_lists, factors_of, halved, large_groupings, lists_mixed_in, odd_things, pairs_in_order, pairs_of,
    small_groupings, steps_of,
)

EXAMPLES = """
    >>> product = Product(("a", "b", "c"))
    >>> product.grouping, product.step(1), product.swap_in("b", ("x", "y")), product.names
    (((1, 2), 3), (1, (2, 3)), (1, ((2, 3), 4)), ('a', 'x', 'y', 'c'))
    >>> product.together("x", "y"), product.together("c", "x"), product.depth("x"), product[3], len(product), "b" in product
    (('x', 'y'), ('x', 'y', 'c'), 3, (('x', 'y'), ('c',)), 4, False)
    >>> product.take_out("c"), product.undo(), product.unstep(3), product.deeds, product.leads_to(Product(("a", "x", "y", "c"), (1, (2, (3, 4)))))
    ((1, (2, 3)), (1, ((2, 3), 4)), ((1, (2, 3)), 4), 3, True)
    >>> product.swap_in("a", ("q", "c"))
    raises Taken(name='c')
    >>> Product(("a",)).take_out("a")
    raises LastOne()
"""


def names_for(many, letter="n"):
    return tuple(letter + "abcdefghijklmnopqrstuvwxyz"[at // 26] + "abcdefghijklmnopqrstuvwxyz"[at % 26] for at in range(many))


def state_of(product):
    return product.names, product.grouping, product.deeds, len(product)


def history_of(product):
    """The states that come if all is taken back, one behind another."""
    twin, found = product.twin(), [(product.names, product.grouping)]
    while twin.deeds:
        twin.undo()
        found.append((twin.names, twin.grouping))
    return found


class ExamplesTest(unittest.TestCase):
    def test_examples_of_chapter_17(self):
        run_examples(self, EXAMPLES, vars(module))


class AskedTest(unittest.TestCase):
    def test_together_and_depth(self):
        for grouping in small_groupings(6) + large_groupings()[::6]:
            names = names_for(factors_in(grouping))
            product = Product(names, grouping)
            parts = parts_of(grouping)
            for at, name in enumerate(names, start=1):
                self.assertEqual(product.depth(name), sum(len(part) > 1 and at in part for part in parts))
                for other, mate in enumerate(names, start=1):
                    least = min((part for part in parts if at in part and other in part), key=len)
                    self.assertEqual(product.together(name, mate), tuple(names[factor - 1] for factor in least))

    def test_operands(self):
        for grouping in small_groupings(6) + large_groupings()[::6]:
            names = names_for(factors_in(grouping))
            product = Product(names, grouping)
            for join, start, reach in pairs_of(grouping):
                self.assertEqual(product[join], (names[start - 1:join], names[join:reach]))
            for join in (-HUGE, -1, 0, len(names), len(names) + 1, HUGE):
                check_raises(self, NoJoin(join), lambda: product[join])

    def test_names_in_it(self):
        product = Product(("a", "bb", "c"))
        self.assertEqual([name in product for name in ("a", "bb", "c", "b", "ab", "d", "bbb")], [True] * 3 + [False] * 4)
        self.assertEqual((len(product), product.names, product.deeds), (3, ("a", "bb", "c"), 0))

    def test_leads_to(self):
        for one in small_groupings(5):
            for other in small_groupings(5):
                names, others = names_for(factors_in(one)), names_for(factors_in(other))
                wanted = factors_in(one) == factors_in(other) and leads_to(one, other)
                self.assertIs(Product(names, one).leads_to(Product(others, other)), wanted)
                self.assertIs(Product(names, one).leads_to(other=Product(others[::-1], other)), wanted and len(names) == 1)
        self.assertIs(Product(("a", "b")).leads_to(Product(("a", "c"))), False)
        self.assertIs(Product(("a", "b", "c")).leads_to(Product(("a", "b"))), False)


def parts_of(part):
    """The factors of all parts, those alone among them."""
    found = [factors_of(part)]
    return found if isinstance(part, int) else found + parts_of(part[0]) + parts_of(part[1])


class DeedsTest(unittest.TestCase):
    def test_steps(self):
        for grouping in small_groupings(5) + large_groupings()[::8]:
            names = names_for(factors_in(grouping))
            for join in range(-1, factors_in(grouping) + 1):
                for do, tell, fits in (("step", step_at, join in steps_of(grouping)),
                                       ("unstep", step_back, join in back_joins(grouping))):
                    product = Product(names, grouping)
                    if fits:
                        self.assertEqual(getattr(product, do)(join), tell(grouping, join))
                        self.assertEqual(state_of(product), (names, tell(grouping, join), 1, len(names)))
                        self.assertEqual((product.undo(), product.deeds), (grouping, 0))
                    else:
                        wanted = NotOpen(join) if 1 <= join < len(names) else NoJoin(join)
                        check_raises(self, wanted, lambda: getattr(product, do)(join=join))
                        self.assertEqual(state_of(product), (names, grouping, 0, len(names)))

    def test_swap_in(self):
        for grouping in small_groupings(5):
            names = names_for(factors_in(grouping))
            for at, name in enumerate(names, start=1):
                for inner in small_groupings(4):
                    others = names_for(factors_in(inner), "m")
                    wanted = names[:at - 1] + others + names[at:]
                    product = Product(names, grouping)
                    self.assertEqual(product.swap_in(name, others, inner), put_in(grouping, at, inner))
                    self.assertEqual(state_of(product), (wanted, put_in(grouping, at, inner), 1, len(wanted)))
                    self.assertEqual(product.together(others[0], others[-1]), others)
                    self.assertEqual((product.undo(), product.names), (grouping, names))
                    product.swap_in(name, others)
                    self.assertEqual(product.grouping, put_in(grouping, at, from_left(len(others))))
                    self.assertEqual(only(product.grouping, tuple(range(at, at + len(others)))), from_left(len(others)))

    def test_swap_in_with_the_same_name(self):
        product = Product(("a", "b"))
        self.assertEqual((product.swap_in("a", ("a",)), product.deeds, product.names), ((1, 2), 1, ("a", "b")))
        self.assertEqual((product.swap_in("a", ("x", "a")), product.names), (((1, 2), 3), ("x", "a", "b")))
        self.assertEqual((product.swap_in("b", ["c"]), product.names), (((1, 2), 3), ("x", "a", "c")))
        self.assertEqual((product.undo(), product.undo(), product.undo()), (((1, 2), 3), (1, 2), (1, 2)))
        check_raises(self, NothingDone(), product.undo)

    def test_take_out(self):
        for grouping in small_groupings(6) + large_groupings()[::9]:
            names = names_for(factors_in(grouping))
            if len(names) == 1:
                continue
            for at, name in enumerate(names, start=1):
                product = Product(names, grouping)
                self.assertEqual(product.take_out(name), without(grouping, at))
                self.assertEqual(product.names, names[:at - 1] + names[at:])
                self.assertIs(name in product, False)
                self.assertEqual((product.undo(), product.names), (grouping, names))

    def test_the_order_is_kept(self):
        for factors in range(2, 5):
            names = names_for(factors)
            for one, other in pairs_in_order(factors):
                for name in names:
                    near, far = Product(names, one), Product(names, other)
                    near.swap_in(name, ("x", "y", "z"), ((1, 2), 3))
                    far.swap_in(name, ("x", "y", "z"), (1, (2, 3)))
                    self.assertIs(near.leads_to(far), True)
                    self.assertIs(far.leads_to(near), False)
                    for product in (near, far):
                        product.take_out(product.names[0])
                        product.take_out(product.names[-1])
                    self.assertIs(near.leads_to(far), True)

    def test_until_the_last_one(self):
        product = Product(names_for(30), halved(1, 30))
        for name in names_for(30)[:29]:
            product.take_out(name)
        self.assertEqual((product.names, product.grouping, product.deeds), (("nbd",), 1, 29))
        check_raises(self, LastOne(), lambda: product.take_out("nbd"))
        for _ in range(29):
            product.undo()
        self.assertEqual((product.names, product.grouping, product.deeds), (names_for(30), halved(1, 30), 0))

    def test_up_to_thirty_factors(self):
        product = Product(("start",))
        self.assertEqual(product.swap_in("start", names_for(30), from_right(30)), from_right(30))
        self.assertEqual((product.undo(), product.names), (1, ("start",)))
        product.swap_in("start", names_for(2))
        while len(product) < 30:
            product.swap_in("naa", ("naa", "k" + "abcdefghijklmnopqrstuvwxyz"[len(product) % 26] + "x" * (len(product) // 26)))
        self.assertEqual((product.grouping, product.depth("naa")), (from_left(30), 29))

    def test_undo_of_each_sort(self):
        product = Product(("a", "b", "c", "d"))
        deeds = [lambda: product.step(2), lambda: product.unstep(3), lambda: product.swap_in("b", ("x", "y", "z"), (1, (2, 3))),
                 lambda: product.take_out("a"), lambda: product.swap_in("c", ("c",)), lambda: product.step(1),
                 lambda: product.take_out("z")]
        states = [state_of(product)[:2]]
        for deed in deeds:
            self.assertEqual(deed(), product.grouping)
            states.append(state_of(product)[:2])
        self.assertEqual((product.deeds, history_of(product)), (len(deeds), states[::-1]))
        for state in states[-2::-1]:
            self.assertEqual(product.undo(), state[1])
            self.assertEqual(state_of(product)[:2], state)
        check_raises(self, NothingDone(), product.undo)
        # A deed behind one that was taken back stands in its place.
        product.step(1)
        product.undo()
        product.take_out("b")
        self.assertEqual((product.deeds, history_of(product)[1]), (1, states[0]))


class RefusedTest(unittest.TestCase):
    def check(self, product, wanted, action):
        before, behind = state_of(product), history_of(product)
        check_raises(self, wanted, action)
        self.assertEqual((state_of(product), history_of(product)), (before, behind))

    def test_refused_deeds_change_nothing(self):
        product = Product(("a", "b", "c", "d"), ((1, 2), (3, 4)))
        product.step(1)
        product.take_out("d")
        for name in ("d", "x", "ab", "aa"):
            self.check(product, NoName(name), lambda: product.swap_in(name, ("b",)))
            self.check(product, NoName(name), lambda: product.swap_in(name, ("q", "r"), (1, 2)))
            self.check(product, NoName(name), lambda: product.take_out(name))
            self.check(product, NoName(name), lambda: product.depth(name))
            self.check(product, NoName(name), lambda: product.together(name, "a"))
            self.check(product, NoName(name), lambda: product.together("a", name))
            self.check(product, NoName(name), lambda: product.together(name, "zz"))
        for names, taken in ((("b",), "b"), (("q", "c", "b"), "c"), (("a", "c"), "c"), (["b", "c"], "b")):
            self.check(product, Taken(taken), lambda: product.swap_in("a", names))
            self.check(product, Taken(taken), lambda: product.swap_in(name="a", names=names, grouping=from_right(len(names))))
        for join in (-1, 0, 3, HUGE):
            self.check(product, NoJoin(join), lambda: product.step(join))
            self.check(product, NoJoin(join), lambda: product.unstep(join))
            self.check(product, NoJoin(join), lambda: product[join])
        self.check(product, NotOpen(1), lambda: product.step(1))
        self.check(product, NotOpen(1), lambda: product.unstep(1))

    def test_the_last_one(self):
        product = Product(["a"])
        self.check(product, LastOne(), lambda: product.take_out("a"))
        self.check(product, NoName("b"), lambda: product.take_out("b"))
        self.check(product, NothingDone(), product.undo)


class OneFactorTest(unittest.TestCase):
    def test_one_factor(self):
        for product in (Product(("a",)), Product(["a"], 1), Product(names=("a",), grouping=None)):
            self.assertEqual((state_of(product), "a" in product), ((("a",), 1, 0, 1), True))
            self.assertEqual((product.together("a", "a"), product.depth("a")), (("a",), 0))
            check_raises(self, NoJoin(1), lambda: product[1])
            check_raises(self, NoJoin(1), lambda: product.step(1))
            self.assertIs(product.leads_to(Product(("a",))), True)
            self.assertEqual((product.swap_in("a", ("b",)), product.names), (1, ("b",)))


class SameTest(unittest.TestCase):
    def test_same_names_and_grouping(self):
        groupings = small_groupings(4)
        every = [(names, grouping, Product(names, grouping)) for grouping in groupings
                 for names in (names_for(factors_in(grouping)), names_for(factors_in(grouping))[::-1])]
        for names, grouping, product in every:
            for others, other_grouping, other in every:
                self.assertIs(product == other, (names, grouping) == (others, other_grouping))
                self.assertIs(product != other, (names, grouping) != (others, other_grouping))

    def test_deeds_do_not_count(self):
        product = Product(("a", "b", "c"))
        product.step(1)
        self.assertIs(product == Product(("a", "b", "c"), (1, (2, 3))), True)
        self.assertIs(product == Product(("a", "b", "c")), False)

    def test_unlike_anything_of_another_class(self):
        product = Product(("a",))
        for thing in odd_things() + ["a", ("a",), {}, object(), Product]:
            self.assertIs(product == thing, False)
            self.assertIs(thing == product, False)
            self.assertIs(product != thing, True)

    def test_twins_share_nothing(self):
        product = Product(("a", "b", "c"))
        product.step(1)
        product.take_out("b")
        twin = product.twin()
        self.assertIs(type(twin), Product)
        self.assertEqual((state_of(twin), history_of(twin)), (state_of(product), history_of(product)))
        self.assertIs(twin == product, True)
        before = state_of(product), history_of(product)
        twin.swap_in("a", ("x", "y"))
        twin.undo()
        twin.undo()
        self.assertEqual((twin.deeds, twin.names, twin.undo()), (1, ("a", "b", "c"), ((1, 2), 3)))
        check_raises(self, NothingDone(), twin.undo)
        self.assertEqual((state_of(product), history_of(product)), before)
        other = product.twin()
        product.undo()
        self.assertEqual((state_of(other), history_of(other)), before)


class GeneralRulesTest(unittest.TestCase):
    def test_it_can_not_be_gone_through(self):
        for product in (Product(("a",)), Product(("a", "b", "c"))):
            for action in (lambda: iter(product), lambda: list(product), lambda: [name for name in product]):
                with self.assertRaises(TypeError):
                    action()

    def test_properties_have_no_setters(self):
        product = Product(("a", "b"))
        for name in ("names", "grouping", "deeds"):
            told = getattr(product, name)
            with self.assertRaises(AttributeError):
                setattr(product, name, told)
            self.assertEqual(getattr(product, name), told)

    def test_lists_for_tuples_and_copies(self):
        for grouping in small_groupings(5):
            names = names_for(factors_in(grouping))
            for change in (as_lists, lists_mixed_in):
                given, handed = change(names), change(grouping)
                product = Product(grouping=handed, names=given)
                self.assertEqual((given, handed), (change(names), change(grouping)))
                self.assertEqual(repr((product.names, product.grouping)), repr((names, grouping)))
                self.assertIs(product == Product(names, grouping), True)
                inner, others = change((1, (2, 3))), change(("x", "y", "z"))
                product.swap_in(grouping=inner, names=others, name=names[0])
                self.assertEqual((inner, others), (change((1, (2, 3))), change(("x", "y", "z"))))
                self.assertEqual(repr(product.grouping), repr(put_in(grouping, 1, (1, (2, 3)))))
                self.assertIs(is_grouping(product.grouping), True)
        given, handed = ["a", "b", "c"], [["x"], 3]
        handed[0] = [1, 2]
        product = Product(given, handed)
        given[0] = "q"
        handed[1] = 4
        handed[0][0] = 7
        self.assertEqual(state_of(product), (("a", "b", "c"), ((1, 2), 3), 0, 3))


if __name__ == "__main__":
    unittest.main()
