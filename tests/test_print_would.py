"""Calls 22 print and 23 would."""

import random
import unittest

from tests.helper import (
    DeskTest, LAST, ask, counts, form_of, guarantee, journey, known, last, letter, news, peak, printed, tell, way, would,
)


def printed_text(*calls):
    answer = last(*calls, printed())
    if answer[0] != 0 or answer[1] != len(answer) - 2:
        raise ValueError(f"no accepted answer with one row: {answer}")
    return "".join(chr(byte) for byte in answer[2:])


def left(number, version=1, j=1, minute=10, **more):
    return news(number, version, j, 1, 0, minute, **more)


def cleared(number, version=1, j=1, minute=30):
    return news(number, version, j, 4, 3, minute)


class PrintTest(DeskTest):
    def test_nothing_known(self):
        self.assertEqual(last(printed()), [0, 0])
        self.assertEqual(last(journey(), tell(), printed()), [0, 0])

    def test_one_news(self):
        self.assertEqual(
            printed_text(journey(), journey(), journey(), tell([7, 2, 3, 5, 1, 1200, 17, 4418])),
            "7.2 journey 3 passes at 5 minute 1200 found 17 left 4418;")

    def test_each_thing_told_by_numbers(self):
        told = [news(90 - k, 1 + k, 1, 9 - k, k, 10 * k, k, 9999) for k in range(5)]
        self.assertEqual(
            printed_text(journey(), tell(*told)),
            "86.5 journey 1 nothing at 5 minute 40 found 4 left 9999; 87.4 journey 1 cleared at 6 minute 30 found 3 left 9999;"
            " 88.3 journey 1 arrives at 7 minute 20 found 2 left 9999; 89.2 journey 1 passes at 8 minute 10 found 1 left 9999;"
            " 90.1 journey 1 leaves at 9 minute 0 found 0 left 9999;")

    def test_the_ends_of_the_ranges(self):
        told = [[1, 1, 1, 1, 0, 0, 0, 0], [999, 9, 16, 9, 4, LAST, 9999, 9999]]
        self.assertEqual(
            printed_text(*[journey()] * 16, tell(*told)),
            "1.1 journey 1 leaves at 1 minute 0 found 0 left 0;"
            " 999.9 journey 16 nothing at 9 minute 1000000000 found 9999 left 9999;")

    def test_only_what_is_known_is_printed(self):
        calls = [journey(), tell(left(2, 2), left(1, 3)), letter(form_of(left(2, 1, minute=99), left(1, 4, minute=8)))]
        self.assertEqual(printed_text(*calls), form_of(left(1, 4, minute=8), left(2, 2)))

    def test_however_a_letter_was_written_the_one_form_comes_back(self):
        text = "\n 7 . 2journey\n1   passes at5 minute1200 found 17left 4418 ;8.1 journey 1 nothing at 2 minute 0 found 0 left 0;\n"
        self.assertEqual(
            printed_text(journey(), letter(text)),
            "7.2 journey 1 passes at 5 minute 1200 found 17 left 4418; 8.1 journey 1 nothing at 2 minute 0 found 0 left 0;")

    def test_more_than_ten_news(self):
        told = [news(k, 9, 1, 9, 4, LAST, 9999, 9999) for k in range(920, 1000)]
        calls = [journey()] + [tell(*told[k:k + 10]) for k in range(0, 80, 10)]
        text = printed_text(*calls)
        self.assertEqual(text, form_of(*told))
        self.assertGreater(len(text), 1200)

    def test_what_is_printed_is_read_back(self):
        chance = random.Random(22)
        for again in range(60):
            told = [
                [chance.choice((k, 990 + k)), chance.randint(1, 9), chance.randint(1, 3), chance.randint(1, 9), chance.randint(0, 4),
                 chance.choice((0, 7, LAST)), chance.choice((0, 17, 9999)), chance.choice((0, 4418, 9999))]
                for k in range(chance.randint(1, 9))
            ]
            told = [[max(1, row[0])] + row[1:] for row in told]
            calls = [journey()] * 3 + [tell(*told)]
            text = printed_text(*calls)
            self.assertEqual(ask(*calls[:3], letter(text), known(), printed())[-2:], ask(*calls, known(), printed())[-2:])
            self.assertEqual(ask(*calls, letter(text), known())[-2:], [[0, 0, text.count(";")], last(*calls, known())])

    def test_more_than_ten_are_read_back_by_several_letters(self):
        told = [news(k, minute=k) for k in range(1, 36)]
        calls = [journey()] + [tell(*told[k:k + 10]) for k in range(0, 35, 10)]
        parts = [part + ";" for part in printed_text(*calls).split(";")[:-1]]
        again = [journey()] + [letter("".join(parts[k:k + 10])) for k in range(0, 35, 10)]
        self.assertEqual(last(*again, known()), last(*calls, known()))


# Of the first principal 1 (share 10, way of two) and 2 (share 5, nothing told), of the second 3 (share 7, left).
BEFORE = [
    journey(money=10), journey(money=5), journey(p=2, money=7), guarantee(1, 0, 12),
    tell(left(1, minute=10, left=7), news(2, 1, 1, 2, 1, 20, 7, 8), left(3, j=3, minute=5)),
]


class WouldTest(DeskTest):
    def check_would(self, told, ways, principals, before=BEFORE):
        text = form_of(*told)
        self.assertEqual(last(*before, would(text)), [0, len(ways), *ways, len(principals), *principals])
        # Nothing is changed by asking.
        questions = [known(), counts(), printed()] + [way(j) for j in (1, 2, 3)] + [peak(1), peak(2)]
        self.assertEqual(ask(*before, would(text), *questions)[len(before) + 1:], ask(*before, *questions)[len(before):])

    def test_nothing_would_change(self):
        self.check_would([], [], [])
        self.check_would([left(1, minute=10, left=7)], [], [])
        self.check_would([news(9, 1, 1, 9, 1, 20)], [], [])
        self.check_would([left(9, minute=11)], [], [])
        self.check_would([news(9, 1, 1, 1, 4, 9)], [], [])
        self.assertEqual(last(would("")), [0, 0, 0])

    def test_other_minutes(self):
        self.check_would([left(1, 2, minute=11, left=7)], [1], [])
        self.check_would([left(9, minute=9)], [1], [])
        self.check_would([news(2, 2, 1, 2, 1, 21, 7, 8)], [1], [])

    def test_other_stages(self):
        self.check_would([news(9, 1, 1, 3, 1, 25)], [1], [])
        self.check_would([news(2, 2, 1, 3, 1, 20, 7, 8)], [1], [])
        self.check_would([news(2, 2, told=4)], [1], [])
        self.check_would([left(1, 2, minute=21)], [1], [])
        self.check_would([news(9, 1, 1, 4, 2, 20)], [1], [])

    def test_arriving_and_clearing_at_the_same_minute_are_other_stages(self):
        before = [journey(money=0), tell(left(1, minute=0), news(2, 1, 1, 4, 2, 30))]
        self.check_would([cleared(2, 2)], [1], [], before)
        self.check_would([news(2, 2, 1, 4, 2, 30, 5, 5)], [], [], before)

    def test_other_numbers_or_seals_alone(self):
        self.check_would([left(1, 2, minute=10, found=3, left=9)], [], [])
        self.check_would([news(1, 2, told=4), left(8, minute=10, left=1)], [], [])
        self.check_would([left(9, minute=10)], [], [])
        before = [journey(), tell(left(5))]
        self.check_would([left(4)], [], [], before)
        self.assertEqual(last(*before, letter(form_of(left(4))), way(1)), [0, 4, 4, 1, 0, 10])

    def test_other_greatest_sums(self):
        self.check_would([left(9, j=2, minute=15)], [2], [1])
        self.check_would([left(9, j=2, minute=9), cleared(10, j=2, minute=10)], [2], [])
        self.check_would([left(9, j=2, minute=9), cleared(10, j=2, minute=11)], [2], [1])
        self.check_would([news(3, 2, 3, told=4)], [3], [2])
        self.check_would([news(3, 2, 3, told=4), news(1, 2, told=4), news(2, 2, told=4)], [1, 3], [1, 2])
        self.check_would([cleared(9, j=3, minute=5)], [3], [2])
        self.check_would([cleared(9, j=3, minute=6)], [3], [])

    def test_the_greatest_sum_at_another_minute_is_the_same(self):
        self.check_would([left(3, 2, 3, minute=500)], [3], [])

    def test_a_news_that_would_be_of_another_journey(self):
        self.check_would([left(3, 2, 2, minute=10)], [2, 3], [1, 2])
        self.check_would([left(3, 2, 1, minute=10)], [3], [2])

    def test_all_journeys_and_all_principals(self):
        before = [journey(p=1 + k % 6) for k in range(16)]
        told = [left(k, j=k) for k in range(1, 11)]
        self.check_would(told, list(range(1, 11)), [1, 2, 3, 4, 5, 6], before)
        self.check_would([left(16, j=16), left(6, j=6)], [6, 16], [4, 6], before)

    def test_principals_are_told_though_their_guarantee_covers_it(self):
        self.check_would([left(9, j=2, minute=15)], [2], [1], BEFORE + [guarantee(1, 0, LAST)])

    def test_a_letter_that_would_be_one_too_many(self):
        forty = BEFORE + [tell()] * 39
        self.assertEqual(last(*forty, letter("")), [-6])
        self.check_would([left(9, j=2, minute=15)], [2], [1], forty)
        eighty = [journey()] + [tell(*[news(10 * k + i, told=4) for i in range(1, 11)]) for k in range(8)]
        self.assertEqual(last(*eighty, letter(form_of(left(81)))), [-6])
        self.check_would([left(81)], [1], [1], eighty)
        self.check_would([left(81 + k) for k in range(10)], [1], [1], eighty)

    def test_refusals_and_which_comes_first(self):
        for before in (BEFORE, BEFORE + [tell()] * 39):
            self.check_refused(before, would(form_of(left(9, j=4))), -3)
            self.check_refused(before, would(form_of(left(9), left(10, j=99))), -3)
            self.check_refused(before, would(form_of(left(9, j=4)) + "?"), -5)
            self.check_refused(before, would(form_of(left(9, j=100))), -5)
            self.check_refused(before, would(form_of(*[left(k) for k in range(1, 12)])), -5)
            self.check_refused(before, would([35, 256]), -1)
        self.check_refused([], would(form_of(left(1))), -3)

    def test_as_when_it_is_told(self):
        chance = random.Random(23)
        for again in range(120):
            calls = [journey(p=chance.randint(1, 2), money=chance.randint(0, 5), route=(1, 2, 3, 4)) for j in range(3)]
            rows = [
                [chance.randint(1, 9), chance.randint(1, 4), chance.randint(1, 3), *chance.choice(((1, 0), (2, 1), (3, 1), (4, 2), (4, 3), (1, 4))),
                 chance.randint(0, 6), 0, 0] for k in range(12)
            ]
            calls += [tell(*rows[:7])]
            text = form_of(*rows[7:])
            questions = [way(j) for j in (1, 2, 3)] + [peak(p) for p in range(1, 7)]
            before = ask(*calls, *questions)[4:]
            after = ask(*calls, letter(text), *questions)[5:]
            ways = [j for j in (1, 2, 3) if self.steps(before[j - 1]) != self.steps(after[j - 1])]
            principals = [p for p in range(1, 7) if before[2 + p][1] != after[2 + p][1]]
            self.assertEqual(last(*calls, would(text)), [0, len(ways), *ways, len(principals), *principals])

    def steps(self, answer):
        """Office, what's told and minute of each news of a way: on one route they are its stages and minutes."""
        return [answer[k + 1:k + 4] for k in range(2, len(answer), 4)]


if __name__ == "__main__":
    unittest.main()
