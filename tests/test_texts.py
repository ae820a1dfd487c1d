"""[2], [3], [19]: texts."""

import unittest

from regroups import texts
from regroups.errors import BadLine, BadText
from regroups.groupings import factors_in, from_left, from_right, is_grouping, reaches
from regroups.texts import (
    grouping_of, grouping_text, lines_of, lines_text, named_of, named_text, reaches_of, reaches_text,
)
from tests.examples import check_raises, run_examples
from tests.samples import all_groupings, as_lists, halved, large_groupings, lists_mixed_in, reaches_of as rows_of, small_groupings

EXAMPLES = r"""
    >>> grouping_text(((1, (2, 3)), 4)), grouping_of("(1 2)"), grouping_text(1), named_text(((1, 2), 3), ("ab", "c", "ab")), named_of("(x (y z))"), named_of("q")
    ('((1 (2 3)) 4)', (1, 2), '1', '((ab c) ab)', ((1, (2, 3)), ('x', 'y', 'z')), (1, ('q',)))
    >>> reaches_text((3, 3, 4)), reaches_text(()), reaches_of("2 4 4"), reaches_of("-"), lines_text(((1, 2), (1, 2))) == "(1 2)\n(1 2)", lines_of("((1 2) 3)\n(1 (2 3))")
    ('3 3 4', '-', (2, 4, 4), (), True, [((1, 2), 3), (1, (2, 3))])
    >>> grouping_of("(2 1)")
    raises BadText()
    >>> named_of("(a  b)")
    raises BadText()
    >>> reaches_of("3 2")
    raises BadText()
    >>> lines_of("(1 2)\n1")
    raises BadLine(number=1)
"""

BAD_SIGNS = ("", " ", "(", ")", "()", "1 ", " 1", "(1)", "1)", "(1", "-", "0", "2", "01", "+1", "1.", "1,2", "(1,2)", "1 2",
             "(1 2", "1 2)", "((1 2))", "(1 2))", "((1 2)", "( 1 2)", "(1 2 )", "(1  2)", "(1 2) ", " (1 2)", "(1\t2)",
             "(1\n2)", "(1 2)\n", "\n", "(2 1)", "(1 3)", "(0 1)", "(1 1)", "(1 02)", "(01 2)", "(1 2 3)", "(1 (2 3)",
             "((1 2 3))", "(1 2) 3", "1 (2 3)", "(1(2 3))", "((1 2)3)", "(1 (3 2))", "((2 3) 1)", "[1 2]", "(1 b)", "(a 2)",
             "(1 -2)", "()(1 2)", "(() 1)", "(1 ())", ")1 2(", "(1 2)(", "1()2", "(1 2(3 4))", "((1 2) (3 5))", "(1 2 (3 4))",
             "(1 ((2 3) 4)", "None", "((((", "))))", "(1 2)" * 30, "(" * 100 + "1" + ")" * 100, "1" * 200)

BAD_NAMES = ("", " ", "(", ")", "()", "a ", " a", "(a)", "a)", "(a", "-", "0", "1", "A", "aB", "a1", "a_b", "abcdefghi", "a b",
             "(a b", "a b)", "((a b))", "(a b))", "( a b)", "(a b )", "(a  b)", "(a\tb)", "(a\nb)", "(a b)\n", "(a b c)",
             "(a (b c)", "(a b) c", "(a(b c))", "((a b)c)", "(a 1)", "(1 b)", "(a abcdefghi)", "(a B)", "[a b]", "(a,b)",
             "(a ())", "a()b", "a(b", "(a b(c d))", "(a~ b)")

BAD_REACHES = ("", " ", "--", "- ", " -", "1", "0", "3", "02", "2 ", " 2", "2  3", "+2", "2,3", "2.", "a", "(2)", "2\n3", "2\n",
               "3 2", "2 4", "2 3 -", "- 2", "1 3", "2 2", "4 3 3", "3 4 4", "2 03", "2 3 04", "-2", "9" * 200)


def written(part):
    """The text, straight from the definition."""
    return str(part) if isinstance(part, int) else "(" + written(part[0]) + " " + written(part[1]) + ")"


def named(part, names):
    return names[part - 1] if isinstance(part, int) else "(" + named(part[0], names) + " " + named(part[1], names) + ")"


def some_names(many):
    return tuple(("a", "zzzzzzzz", "bc", "a", "qrs")[at % 5] for at in range(many))


class ExamplesTest(unittest.TestCase):
    def test_examples_of_chapter_18(self):
        run_examples(self, EXAMPLES, vars(texts))


class GroupingTest(unittest.TestCase):
    def test_there_and_back(self):
        for grouping in small_groupings(7) + large_groupings():
            text = grouping_text(grouping)
            self.assertEqual(text, written(grouping))
            self.assertEqual(repr(grouping_of(text)), repr(grouping))
            self.assertEqual(grouping_text(grouping=as_lists(grouping)), text)
            self.assertEqual(grouping_text(lists_mixed_in(grouping)), text)
            self.assertIs(is_grouping(grouping_of(text=text)), True)

    def test_no_texts(self):
        for text in BAD_SIGNS:
            check_raises(self, BadText(), lambda: grouping_of(text))
            check_raises(self, BadText(), lambda: grouping_of(text=text))

    def test_a_sign_too_many_or_too_few_or_another_one(self):
        for grouping in (1, (1, 2), (1, (2, 3)), ((1, 2), (3, 4)), from_left(11), halved(1, 12)):
            text, every = written(grouping), {written(own) for own in all_groupings(1, min(factors_in(grouping), 5))}
            for at in range(len(text) + 1):
                for others in ("", " ", "(", ")", "0", "1", "2", "a", "-"):
                    for changed in (text[:at] + others + text[at:], text[:at] + others + text[at + 1:]):
                        if changed != text and changed not in every | {"1", "(1 2)"}:
                            check_raises(self, BadText(), lambda: grouping_of(changed))

    def test_all_short_texts(self):
        every = {written(grouping) for grouping in small_groupings(3)}
        found = {""}
        for _ in range(6):
            found |= {text + sign for text in found for sign in "(12 )"}
        for text in found:
            if text in every:
                self.assertEqual(written(grouping_of(text)), text)
            else:
                check_raises(self, BadText(), lambda: grouping_of(text))


class NamesTest(unittest.TestCase):
    def test_there_and_back(self):
        for grouping in small_groupings(6) + large_groupings():
            names = some_names(factors_in(grouping))
            text = named_text(grouping, names)
            self.assertEqual(text, named(grouping, names))
            self.assertEqual(repr(named_of(text)), repr((grouping, names)))
            self.assertEqual(named_text(names=list(names), grouping=as_lists(grouping)), text)
            self.assertEqual(named_of(text=text), (grouping, names))
        self.assertEqual(named_of("abcdefgh"), (1, ("abcdefgh",)))

    def test_no_texts(self):
        for text in BAD_NAMES:
            check_raises(self, BadText(), lambda: named_of(text))
            check_raises(self, BadText(), lambda: named_of(text=text))


class ReachesTest(unittest.TestCase):
    def test_there_and_back(self):
        for grouping in small_groupings(7) + large_groupings():
            rows = rows_of(grouping)
            text = reaches_text(rows)
            self.assertEqual(text, " ".join(map(str, rows)) or "-")
            self.assertEqual(repr(reaches_of(text)), repr(rows))
            self.assertEqual((reaches_text(rows=list(rows)), reaches_of(text=text)), (text, rows))

    def test_no_texts(self):
        for text in BAD_REACHES:
            check_raises(self, BadText(), lambda: reaches_of(text))
            check_raises(self, BadText(), lambda: reaches_of(text=text))

    def test_just_these_rows(self):
        for factors in range(2, 6):
            every = {reaches(grouping) for grouping in all_groupings(1, factors)}
            for rows in rows_up_to(factors - 1, factors + 1):
                text = " ".join(map(str, rows))
                if rows in every:
                    self.assertEqual(reaches_of(text), rows)
                else:
                    check_raises(self, BadText(), lambda: reaches_of(text))


def rows_up_to(length, most):
    return [()] if length == 0 else [row + (last,) for row in rows_up_to(length - 1, most) for last in range(most + 1)]


class LinesTest(unittest.TestCase):
    def test_there_and_back(self):
        for factors in range(1, 6):
            every = tuple(all_groupings(1, factors))
            for groupings in (every, every[:1], every[-1:] * 3, every + every[::-1]):
                text = lines_text(groupings)
                self.assertEqual(text, "\n".join(map(written, groupings)))
                self.assertEqual(repr(lines_of(text)), repr(list(groupings)))
                self.assertEqual(lines_text(groupings=[as_lists(grouping) for grouping in groupings]), text)
        large = [from_left(30), from_right(30), halved(1, 30)] * 20
        self.assertEqual(lines_of(lines_text(large)), large)

    def test_bad_lines(self):
        good = "((1 2) 3)"
        for bad in BAD_SIGNS + ("(1 2)", "1", "((1 2) (3 4))", "(a (b c))"):
            if "\n" in bad:
                continue
            wanted = 1 if bad in ("(1 2)", "1", "((1 2) (3 4))") else 0
            check_raises(self, BadLine(wanted), lambda: lines_of(bad + "\n" + good))
            check_raises(self, BadLine(1), lambda: lines_of(good + "\n" + bad))
            check_raises(self, BadLine(3), lambda: lines_of(text="\n".join((good, good, "(1 (2 3))", bad, good, bad))))
        for text, number in (("", 0), ("\n", 0), (good + "\n", 1), ("\n" + good, 0), (good + "\n\n" + good, 1),
                             ("1\n1\n1\n", 3), ("1\n(1 2)\nx", 1), ("1\nx\n(1 2)", 1), (good + "\r\n" + good, 0)):
            check_raises(self, BadLine(number), lambda: lines_of(text))

    def test_unlike_numbers_of_factors(self):
        rows = [written(from_right(factors)) for factors in (4, 4, 4, 5, 4, 3)]
        check_raises(self, BadLine(3), lambda: lines_of("\n".join(rows)))
        check_raises(self, BadLine(6), lambda: lines_of("\n".join(rows[:3] * 2 + ["1"])))

    def test_lists_are_new(self):
        first = lines_of("1\n1")
        first.clear()
        self.assertEqual(lines_of("1\n1"), [1, 1])


if __name__ == "__main__":
    unittest.main()
