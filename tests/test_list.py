"""The interface: one list of calls, read by its table, answered number by number."""

import contextlib
import io
import unittest

from sealedgoods.desk import answers
from sealedgoods.forms import FORMS, read_calls
from tests.helper import (
    DeskTest, FAR, faults, guarantee, journey, keeper, known, missing, news, overdue, peak,
    reserved, seals, shorts, split, status, tell, tell_row, way,
)

# As the document's interface has it: how many whole numbers, and whether a row follows.
TABLE = {
    0: (4, True), 1: (3, False), 2: (0, True), 3: (0, False), 4: (2, False), 5: (2, False),
    6: (1, False), 7: (1, False), 8: (1, False), 9: (1, False), 10: (2, False), 11: (1, False),
    12: (1, False), 13: (1, False), 14: (2, False), 15: (0, True), 16: (3, False),
    17: (3, False), 18: (0, False), 19: (0, False), 20: (0, True), 21: (0, True),
    22: (0, False), 23: (0, True), 24: (2, False), 25: (1, False), 26: (2, False), 27: (0, False),
}

EACH = [
    journey(), journey(p=2, money=7, hundredths=50, route=(5, 6)), guarantee(1, 0, 400),
    tell(news(1, minute=5, left=7), news(2, office=2, told=1, minute=9, found=8)),
    known(), status(1, 9), keeper(1, 9), way(1), faults(1), missing(1), seals(1),
    reserved(1, 9), peak(1), shorts(1), overdue(100), journey(p=7), tell_row([1]), way(3),
]


def joined(calls):
    return [number for call in calls for number in call]


class ListTest(DeskTest):
    def test_answers_stand_one_behind_another_with_their_counts(self):
        self.assertEqual(
            answers(joined([journey(money=101, hundredths=33), guarantee(1, 0, 5), journey(p=0), known()])),
            [3, 0, 1, 34, 2, 0, 1, 1, -1, 2, 0, 0])

    def test_every_call_is_read_by_its_table(self):
        self.assertEqual(len(FORMS), len(TABLE))
        for number, (numbers, has_row) in TABLE.items():
            for row in ([], [3], [0] * 9, [FAR, -FAR] * 600) if has_row else ([],):
                call = [number] + [-FAR] * numbers + ([len(row)] + row if has_row else [])
                read = read_calls(call + known())
                self.assertEqual(len(read), 2, number)
                self.assertEqual(read[0].numbers, [-FAR] * numbers)
                self.assertEqual(read[0].row, row)
                self.assertEqual(split(answers(call + guarantee(1, 0, 1)))[1:], [[0, 1]])

    def test_a_list_of_sixty_calls_with_long_rows(self):
        calls = [tell_row([1] * 275)] * 59 + [known()]
        self.assertEqual(split(answers(joined(calls))), [[-1]] * 59 + [[0, 0]])

    def test_the_list_handed_in_is_the_same_afterwards(self):
        calls = joined(EACH)
        copy = list(calls)
        answers(calls)
        self.assertEqual(calls, copy)

    def test_what_is_given_back_is_new_each_time(self):
        calls = joined(EACH)
        first = answers(calls)
        kept = list(first)
        first.clear()
        self.assertEqual(answers(calls), kept)

    def test_nothing_is_kept_from_one_time_to_the_next(self):
        fresh = answers(known())
        calls = joined(EACH)
        self.assertEqual(answers(calls), answers(calls))
        self.assertEqual(answers(known()), fresh)
        self.assertEqual(answers(journey()), [3, 0, 1, 1000])
        self.assertEqual(answers(guarantee(6, 5, 5)), [2, 0, 1])

    def test_whole_numbers_in_a_list_are_given_back(self):
        given = answers(joined(EACH))
        self.assertIs(type(given), list)
        self.assertEqual({type(number) for number in given}, {int})

    def test_nothing_is_printed(self):
        out = io.StringIO()
        with contextlib.redirect_stdout(out), contextlib.redirect_stderr(out):
            answers(joined(EACH))
        self.assertEqual(out.getvalue(), "")


if __name__ == "__main__":
    unittest.main()
