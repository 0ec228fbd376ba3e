"""The interface: one list of calls, read by its table, answered number by number."""

import contextlib
import inspect
import io
import sys
import unittest

from sealedgoods.desk import answers
from sealedgoods.forms import FORMS, read_calls
from tests.helper import (
    DeskTest, FAR, ask, at, broken, check, counts, faults, form_of, guarantee, journey, journeys, keeper, known, letter, may,
    missing, news, overdue, peak, plan, plan_row, planned, printed, reserved, road, seals, shorts, split, status, tell,
    tell_row, then, was, way, when, would,
)

# As the document's interface has it: how many whole numbers, and whether a row follows.
TABLE = {
    0: (4, True), 1: (3, False), 2: (0, True), 3: (0, False), 4: (2, False), 5: (2, False),
    6: (1, False), 7: (1, False), 8: (1, False), 9: (1, False), 10: (2, False), 11: (1, False),
    12: (1, False), 13: (1, False), 14: (2, False), 15: (0, True), 16: (3, False),
    17: (3, False), 18: (0, False), 19: (0, False), 20: (0, True), 21: (0, True),
    22: (0, False), 23: (0, True), 24: (2, False), 25: (1, False), 26: (2, False), 27: (0, False),
}

EACH = [
    journey(), journey(p=2, money=7, hundredths=50, route=(5, 6)), guarantee(1, 0, 400),
    tell(news(1, minute=5, left=7), news(2, office=2, told=1, minute=9, found=8)),
    known(), status(1, 9), keeper(1, 9), way(1), faults(1), missing(1), seals(1),
    reserved(1, 9), peak(1), shorts(1), overdue(100), journey(p=7), tell_row([1]), way(3),
    may(2, 5), plan(planned(5, 9, [3, 1]), planned(6, 9, [2])), then(1, 1, 9), was(1, 1, 9), broken(), journeys(),
    letter(form_of(news(3, j=2, office=5, minute=4))), check("7.2 journeys"), printed(), would(form_of(news(1, 2, minute=6))),
    at(1, 3), road(9), when(1, 5), counts(), plan_row([1]), letter("7"), letter([256]), would(form_of(news(1, j=3))), then(3, 1, 1),
    when(2, 5), at(0, 0), may(1, 5),
]


def joined(calls):
    return [number for call in calls for number in call]


class ListTest(DeskTest):
    def test_answers_stand_one_behind_another_with_their_counts(self):
        self.assertEqual(
            answers(joined([journey(money=101, hundredths=33), guarantee(1, 0, 5), journey(p=0), known()])),
            [3, 0, 1, 34, 2, 0, 1, 1, -1, 2, 0, 0])

    def test_every_call_is_read_by_its_table(self):
        self.assertEqual(len(FORMS), len(TABLE))
        for number, (numbers, has_row) in TABLE.items():
            for row in ([], [3], [0] * 9, [FAR, -FAR] * 600) if has_row else ([],):
                call = [number] + [-FAR] * numbers + ([len(row)] + row if has_row else [])
                read = read_calls(call + known())
                self.assertEqual(len(read), 2, number)
                self.assertEqual(read[0].numbers, [-FAR] * numbers)
                self.assertEqual(read[0].row, row)
                found = split(answers(call + guarantee(1, 0, 1)))
                self.assertEqual(found[1:], [[0, 1]])
                self.assertIn(found[0][0], (0, -1, -5))

    def test_the_list_has_every_call_and_every_refusal(self):
        self.assertEqual(sorted({call[0] for call in EACH}), list(range(28)))
        self.assertLessEqual({-1, -3, -5, -7}, {answer[0] for answer in ask(*EACH)})
        self.assertTrue(all(answer and (answer[0] == 0 or len(answer) == 1) for answer in ask(*EACH)))

    def test_calls_that_nothing_was_told_to(self):
        self.assertEqual(
            answers([18, 27, 11, 1, 12, 1]), [2, 0, 0, 6, 0, 0, 0, 0, 0, 0, 4, 0, 0, 0, 0, 2, 0, 0])
        self.assertEqual(
            ask(may(1, 0), plan(planned(5, 1, [2])), then(0, 1, 0), was(0, 1, 0), broken(), journeys(), letter(""), check(""),
                printed(), would(""), at(1, 0), road(0), when(1, 0), counts()),
            [[-3], [0, 5, 1, 2], [0, 0], [-3], [0, 0], [0, 0], [0, 0, 0], [0, 0, 0],
             [0, 0], [0, 0, 0], [0, 0], [0, 0], [-3], [0, 0, 0, 1, 0, 0]])

    def test_only_shorts_has_a_number_below_0_behind_a_0(self):
        for call, answer in zip(EACH, ask(*EACH)):
            if answer[0] == 0 and call[0] != 12:
                self.assertGreaterEqual(min(answer), 0, call)

    def test_the_calls_in_any_order(self):
        for calls in (EACH[::-1], EACH[20:] + EACH[:20], EACH[::2] + EACH[1::2]):
            flat = joined(calls)
            kept = list(flat)
            first = answers(flat)
            self.assertEqual(len(split(first)), len(calls))
            self.assertEqual(flat, kept)
            self.assertEqual(answers(flat), first)

    def test_a_list_of_sixty_calls_with_long_rows(self):
        calls = [tell_row([1] * 275)] * 59 + [known()]
        self.assertEqual(split(answers(joined(calls))), [[-1]] * 59 + [[0, 0]])
        calls = [check([32] * 1200)] * 14 + [known()]
        self.assertEqual(split(answers(joined(calls))), [[0, 0, 0]] * 14 + [[0, 0]])

    def test_the_list_handed_in_is_the_same_afterwards(self):
        calls = joined(EACH)
        copy = list(calls)
        answers(calls)
        self.assertEqual(calls, copy)

    def test_what_is_given_back_is_new_each_time(self):
        calls = joined(EACH)
        first = answers(calls)
        kept = list(first)
        first.clear()
        self.assertEqual(answers(calls), kept)

    def test_nothing_is_kept_from_one_time_to_the_next(self):
        fresh = answers(known())
        calls = joined(EACH)
        self.assertEqual(answers(calls), answers(calls))
        self.assertEqual(answers(known()), fresh)
        self.assertEqual(answers(journey()), [3, 0, 1, 1000])
        self.assertEqual(answers(guarantee(6, 5, 5)), [2, 0, 1])

    def test_whole_numbers_in_a_list_are_given_back(self):
        given = answers(joined(EACH))
        self.assertIs(type(given), list)
        self.assertEqual({type(number) for number in given}, {int})

    def test_what_is_long_is_gone_through_by_loops(self):
        calls = joined(EACH + [check("1" * 1200), check("a" * 1200), letter(" " * 1200), letter(";" * 1200), plan_row([1] * 1200)])
        expected = answers(calls)
        limit = sys.getrecursionlimit()
        sys.setrecursionlimit(len(inspect.stack()) + 40)
        try:
            self.assertEqual(answers(calls), expected)
        finally:
            sys.setrecursionlimit(limit)

    def test_nothing_is_printed(self):
        out = io.StringIO()
        with contextlib.redirect_stdout(out), contextlib.redirect_stderr(out):
            answers(joined(EACH))
        self.assertEqual(out.getvalue(), "")


if __name__ == "__main__":
    unittest.main()
