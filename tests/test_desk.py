"""[2], [3], [20]: a desk."""

import unittest

from regroups import desk as module
from regroups.counts import many_ahead, many_behind
from regroups.desk import Desk, answers
from regroups.errors import BadLine, BadText
from regroups.groupings import factors_in, from_left, from_right, mirrored
from regroups.order import greatest_ahead, least_behind
from regroups.routes import fewest_steps, most_steps
from regroups.steps import back_joins, step_back
from regroups.texts import grouping_text
from tests.examples import check_raises, run_examples
from tests.samples import (
    all_groupings, brackets_of, halved, large_groupings, led_to, reaches_of, small_groupings, starts_of, steps_of,
)

EXAMPLES = r"""
    >>> desk = Desk(4)
    >>> [desk.answer(request) for request in ("text", "open", "step 1", "text", "reaches", "starts", "number", "before", "after", "has 2 3", "open")]
    ['(((1 2) 3) 4)', '1 2', 'done', '((1 (2 3)) 4)', '3 3 4', '1 2 1', '2', '2', '3', 'yes', '1']
    >>> [desk.answer(request + " (1 (2 (3 4)))") for request in ("leads", "fewest", "most")] + [desk.answer(request + " ((1 2) (3 4))") for request in ("leads", "fewest", "ahead", "behind")]
    ['yes', '2', '2', 'no', 'never', '(((1 2) 3) 4)', '(1 (2 (3 4)))']
    >>> [desk.answer(request) for request in ("step 2", "step 4", "leads (1 2)", "turn", "text", "undo", "back 2", "text", "back 2", "put ((1 2) (3 4))", "open")], len(desk), desk.now
    (['refused NotOpen 2', 'refused NoJoin 4', 'refused Unlike', 'done', '(1 ((2 3) 4))', 'done', 'done', '(((1 2) 3) 4)', 'refused NotOpen 2', 'done', '1'], 3, ((1, 2), (3, 4)))
    >>> answers("factors 1\ntext\nreaches\nundo\nnumber"), answers("factors 3")
    (['1', '-', 'refused NothingDone', '0'], [])
    >>> desk.answer("put (1 2")
    raises BadText()
    >>> answers("factors 2\ntext\ntexts")
    raises BadLine(number=2)
"""

WITHOUT_MORE = ("text", "reaches", "starts", "open", "number", "before", "after", "turn", "undo")
WITH_A_TEXT = ("leads", "fewest", "most", "ahead", "behind", "put")
BAD_REQUESTS = (
    "", " ", "texts", "Text", "TEXT", " text", "text ", "text 1", "text (1 2)", "reaches -", "open 1", "number 0", "undo 1",
    "undo undo", "turn 1", "turn (1 2)", "step", "step ", "step 01", "step 00", "step +1", "step -1", "step 1 ", "step  1",
    "step 1 2", "step a", "step 1.", "step (1 2)", "step one", "stepp 1", "step1", "back", "back ", "back -1", "back 1 1",
    "back 02", "has", "has 1", "has 1 ", "has 1 2 3", "has  1 2", "has 1  2", "has 1 02", "has 01 2", "has a b", "has 1,2",
    "has (1 2)", "has -1 2", "has 1 -2", "leads", "leads ", "leads 1 2", "leads (1 2", "leads  (1 2)", "leads (1 2) ",
    "leads (a b)", "leads (2 1)", "leads (1 02)", "leads (1 2) (1 2)", "leads 0", "leads 2", "put", "put ", "put a", "put (1  2)",
    "put (1 2", "fewest", "fewest ()", "most 01", "ahead", "behind -", "ahead (1 2))", "after 1", "before (1 2)", "done",
    "refused", "factors 3", "factors", "text\n", "text\ntext", "step 1\n", "\ntext", "put 1\n", "step\t1", "text\t", "quit",
)


def words(row):
    return " ".join(map(str, row)) or "-"


def state_of(desk):
    """The state, and all those that come if all is taken back; the desk is as it was behind it."""
    found = [desk.now]
    for _ in range(len(desk)):
        desk.answer("undo")
        found.append(desk.now)
    for grouping in found[-2::-1]:
        desk.answer("put " + grouping_text(grouping))
    return found


class ExamplesTest(unittest.TestCase):
    def test_examples_of_chapter_19(self):
        run_examples(self, EXAMPLES, vars(module))


class AskedTest(unittest.TestCase):
    def desks(self):
        for grouping in small_groupings(5) + large_groupings()[::9]:
            desk = Desk(factors_in(grouping))
            self.assertEqual(desk.answer("put " + grouping_text(grouping)), "done")
            yield desk, grouping

    def test_of_the_grouping(self):
        for desk, grouping in self.desks():
            self.assertEqual(desk.answer("text"), grouping_text(grouping))
            self.assertEqual(desk.answer("reaches"), words(reaches_of(grouping)))
            self.assertEqual(desk.answer("starts"), words(starts_of(grouping)))
            self.assertEqual(desk.answer("open"), words(sorted(steps_of(grouping))))
            self.assertEqual(desk.answer("before"), str(many_ahead(grouping)))
            self.assertEqual(desk.answer("after"), str(many_behind(grouping)))
            self.assertEqual((desk.now, len(desk)), (grouping, 1))

    def test_number(self):
        for factors in range(1, 7):
            every = sorted(all_groupings(1, factors), key=reaches_of)
            desk = Desk(factors)
            for number, grouping in enumerate(every):
                desk.answer("put " + grouping_text(grouping))
                self.assertEqual(desk.answer("number"), str(number))
        desk = Desk(30)
        self.assertEqual((desk.answer("number"), desk.answer("before"), desk.answer("after")), ("0", "1", "1002242216651368"))
        desk.answer("turn")
        self.assertEqual(desk.answer("number"), "1002242216651367")

    def test_has(self):
        for desk, grouping in self.desks():
            factors = factors_in(grouping)
            for first in list(range(0, factors + 2))[:9] + [10 ** 100]:
                for last in list(range(0, factors + 2))[-9:] + [10 ** 100]:
                    wanted = "yes" if (first, last) in brackets_of(grouping) else "no"
                    self.assertEqual(desk.answer(f"has {first} {last}"), wanted)

    def test_of_another_one_too(self):
        for desk, grouping in self.desks():
            factors = factors_in(grouping)
            others = all_groupings(1, factors) if factors < 6 else [from_left(factors), halved(1, factors), from_right(factors)]
            for other in others:
                text = grouping_text(other)
                leads = other in led_to(grouping) if factors < 6 else fewest_steps(grouping, other) is not None
                self.assertEqual(desk.answer("leads " + text), "yes" if leads else "no")
                self.assertEqual(desk.answer("fewest " + text), str(fewest_steps(grouping, other)) if leads else "never")
                self.assertEqual(desk.answer("most " + text), str(most_steps(grouping, other)) if leads else "never")
                self.assertEqual(desk.answer("ahead " + text), grouping_text(greatest_ahead((grouping, other))))
                self.assertEqual(desk.answer("behind " + text), grouping_text(least_behind((grouping, other))))
            self.assertEqual((desk.now, len(desk)), (grouping, 1))


class ChangedTest(unittest.TestCase):
    def test_steps_and_steps_back(self):
        for grouping in small_groupings(5) + large_groupings()[::9]:
            factors = factors_in(grouping)
            for join in range(0, factors + 2):
                for word, fits, behind in (
                        ("step", join in steps_of(grouping), steps_of(grouping).get(join, (None,))[0]),
                        ("back", join in back_joins(grouping), None)):
                    desk = Desk(factors)
                    desk.answer("put " + grouping_text(grouping))
                    if fits:
                        self.assertEqual(desk.answer(f"{word} {join}"), "done")
                        self.assertEqual(desk.now, behind or step_back(grouping, join))
                        self.assertEqual((len(desk), desk.answer("undo"), desk.now, len(desk)), (2, "done", grouping, 1))
                    else:
                        name = "NotOpen" if 1 <= join < factors else "NoJoin"
                        self.assertEqual(desk.answer(f"{word} {join}"), f"refused {name} {join}")
                        self.assertEqual((desk.now, len(desk)), (grouping, 1))

    def test_great_numbers(self):
        desk, many = Desk(3), 10 ** 150
        self.assertEqual(desk.answer(f"step {many}"), f"refused NoJoin {many}")
        self.assertEqual(desk.answer(f"back {many}"), f"refused NoJoin {many}")

    def test_put_and_turn(self):
        for factors in range(1, 6):
            desk, done = Desk(factors), 0
            self.assertEqual((desk.now, len(desk)), (from_left(factors), 0))
            for grouping in all_groupings(1, factors):
                self.assertEqual((desk.answer("put " + grouping_text(grouping)), desk.now), ("done", grouping))
                self.assertEqual((desk.answer("turn"), desk.now), ("done", mirrored(grouping)))
                done += 2
                self.assertEqual(len(desk), done)

    def test_changes_by_which_nothing_changes_are_taken_back_too(self):
        desk = Desk(1)
        self.assertEqual([desk.answer(request) for request in ("turn", "put 1", "turn")], ["done"] * 3)
        self.assertEqual(len(desk), 3)
        self.assertEqual([desk.answer("undo") for _ in range(4)], ["done"] * 3 + ["refused NothingDone"])
        desk = Desk(3)
        self.assertEqual([desk.answer(request) for request in ("put ((1 2) 3)", "step 1", "put (1 (2 3))")], ["done"] * 3)
        self.assertEqual((len(desk), desk.answer("undo"), desk.now), (3, "done", (1, (2, 3))))
        self.assertEqual((len(desk), desk.answer("undo"), desk.now), (2, "done", ((1, 2), 3)))
        self.assertEqual((len(desk), desk.answer("undo"), desk.now), (1, "done", ((1, 2), 3)))
        self.assertEqual((len(desk), desk.answer("undo"), len(desk)), (0, "refused NothingDone", 0))

    def test_undo_of_each_sort(self):
        desk = Desk(5)
        states = [desk.now]
        for request in ("step 2", "back 3", "step 1", "put (1 ((2 3) (4 5)))", "turn", "undo", "turn", "back 4", "step 1"):
            told = desk.answer(request)
            if request == "undo":
                states.pop()
            elif told == "done":
                states.append(desk.now)
            self.assertEqual(len(desk), len(states) - 1)
        self.assertGreater(len(states), 5)
        self.assertEqual(state_of(desk), states[::-1])


class RefusedTest(unittest.TestCase):
    def test_refused_requests_change_nothing(self):
        desk = Desk(4)
        desk.answer("step 1")
        desk.answer("turn")
        before = state_of(desk)
        for request, wanted in (
                [(word + " " + text, "refused Unlike") for word in WITH_A_TEXT
                 for text in ("1", "(1 2)", "((1 2) 3)", grouping_text(from_right(5)), grouping_text(from_left(30)))]
                + [("step 0", "refused NoJoin 0"), ("step 4", "refused NoJoin 4"), ("back 0", "refused NoJoin 0"),
                   ("back 99", "refused NoJoin 99"), ("step 1", "refused NotOpen 1"), ("step 3", "refused NotOpen 3"),
                   ("back 1", "refused NotOpen 1")]):
            self.assertEqual(desk.answer(request), wanted)
            self.assertEqual(desk.answer(request=request), wanted)
            self.assertEqual((desk.now, len(desk)), (before[0], 2))
        self.assertEqual(state_of(desk), before)

    def test_no_requests(self):
        for factors in (1, 2, 4, 30):
            desk = Desk(factors=factors)
            desk.answer("turn")
            now = desk.now
            for request in BAD_REQUESTS:
                check_raises(self, BadText(), lambda: desk.answer(request))
                self.assertEqual((desk.now, len(desk)), (now, 1))

    def test_each_word_with_and_without_more(self):
        desk = Desk(2)
        for word in WITHOUT_MORE:
            self.assertIs(type(desk.answer(word)), str)
            for more in (" ", " 1", " 1 2", " (1 2)"):
                check_raises(self, BadText(), lambda: desk.answer(word + more))
        for word in WITH_A_TEXT:
            self.assertIs(type(desk.answer(word + " (1 2)")), str)
            self.assertEqual(desk.answer(word + " 1"), "refused Unlike")
            for more in ("", " ", " 2", " 1 2", " (1 2) 1"):
                check_raises(self, BadText(), lambda: desk.answer(word + more))
        for word in ("step", "back"):
            self.assertEqual(desk.answer(word + " 1"), "refused NotOpen 1")
            for more in ("", " ", " 1 2", " (1 2)", " x"):
                check_raises(self, BadText(), lambda: desk.answer(word + more))
        self.assertEqual((desk.answer("has 1 2"), desk.answer("has 2 1"), desk.answer("has 0 0")), ("yes", "no", "no"))


class AnswersTest(unittest.TestCase):
    def test_as_one_desk_answers(self):
        requests = ["text", "step 2", "reaches", "starts", "open", "number", "undo", "undo", "turn", "has 1 2", "put (1 2)",
                    "before", "after", "back 3", "back 9", "step 0", "text", "undo", "text"]
        for factors in (1, 2, 3, 4, 7, 30):
            desk = Desk(factors)
            wanted = [desk.answer(request) for request in requests]
            text = "\n".join([f"factors {factors}"] + requests)
            self.assertEqual(answers(text), wanted)
            self.assertEqual(answers(text=text), wanted)
            first = answers(text)
            first.clear()
            self.assertEqual(answers(text), wanted)

    def test_a_sheet_with_just_its_first_line(self):
        for factors in (1, 2, 30):
            self.assertEqual(answers(f"factors {factors}"), [])

    def test_first_lines_that_are_none(self):
        for line in ("", " ", "factors", "factors ", "factors 0", "factors 00", "factors 01", "factors -1", "factors +3", "factors a",
                     "factors  3", " factors 3", "factors 3 ", "factors 3 3", "Factors 3", "factor 3", "factors3", "3", "text",
                     "factors 3.", "factors\t3", "factors (1 2)"):
            for more in ("", "\ntext", "\nbad", "\n"):
                check_raises(self, BadLine(0), lambda: answers(line + more))

    def test_bad_lines(self):
        for request in BAD_REQUESTS:
            if "\n" not in request:
                check_raises(self, BadLine(1), lambda: answers("factors 3\n" + request))
                check_raises(self, BadLine(3), lambda: answers("factors 3\ntext\nstep 1\n" + request + "\nundo\n" + request))
        check_raises(self, BadLine(1), lambda: answers("factors 3\n"))
        check_raises(self, BadLine(2), lambda: answers("factors 3\ntext\n"))
        check_raises(self, BadLine(1), lambda: answers("factors 3\nfactors 3"))

    def test_refused_requests_are_no_bad_lines(self):
        self.assertEqual(answers("factors 2\nstep 1\nstep 2\nput 1\nundo"),
                         ["refused NotOpen 1", "refused NoJoin 2", "refused Unlike", "refused NothingDone"])


class GeneralRulesTest(unittest.TestCase):
    def test_now_has_no_setter(self):
        desk = Desk(3)
        with self.assertRaises(AttributeError):
            desk.now = (1, (2, 3))
        self.assertEqual(desk.now, ((1, 2), 3))

    def test_unlike_anything_of_another_class(self):
        desk = Desk(1)
        for thing in (None, 1, "1", (), [], {}, object(), Desk):
            self.assertIs(desk == thing, False)
            self.assertIs(thing == desk, False)


if __name__ == "__main__":
    unittest.main()
