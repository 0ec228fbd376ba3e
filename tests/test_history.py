"""Calls 16 then and 17 was: what was known behind the first tells and letters."""

import random
import unittest

from tests.helper import (
    DeskTest, FAR, LAST, ask, form_of, journey, keeper, last, letter, news, reserved, tell, tell_row, then, was, would,
)

ROUTE = (5, 2, 9, 7)


def left(number, version=1, j=1, minute=10):
    return news(number, version, j, 5, 0, minute)


def passed(number, version=1, j=1, minute=20):
    return news(number, version, j, 2, 1, minute)


def cleared(number, version=1, j=1, minute=40):
    return news(number, version, j, 7, 3, minute)


# Tells and letters by turns; the fourth takes back the third, the last puts the first right.
STEPS = [
    journey(money=101, hundredths=50, route=ROUTE),
    tell(left(1)), letter(form_of(passed(2))), tell(cleared(3)), letter(form_of(news(3, 2, told=4))), tell(left(1, 2, minute=15)),
]
# At minutes 12, 25 and 45: the sum that's out, and the keeper, behind each number of tells.
KNOWN_THEN = [
    ((0, [0, 5, 0]), (0, [0, 5, 0]), (0, [0, 5, 0])),
    ((51, [1, 5, 7]), (51, [1, 5, 7]), (51, [1, 5, 7])),
    ((51, [1, 5, 2]), (51, [1, 2, 7]), (51, [1, 2, 7])),
    ((51, [1, 5, 2]), (51, [1, 2, 7]), (0, [2, 0, 0])),
    ((51, [1, 5, 2]), (51, [1, 2, 7]), (51, [1, 2, 7])),
    ((0, [0, 5, 0]), (51, [1, 2, 7]), (51, [1, 2, 7])),
]


class HistoryTest(DeskTest):
    def test_behind_each_tell_and_letter(self):
        for n, minutes in enumerate(KNOWN_THEN):
            for t, (total, held) in zip((12, 25, 45), minutes):
                self.assertEqual(last(*STEPS, then(n, 1, t)), [0, total], (n, t))
                self.assertEqual(last(*STEPS, was(n, 1, t)), [0] + held, (n, t))

    def test_as_it_was_answered_then(self):
        for n in range(6):
            for t in (0, 9, 10, 15, 19, 20, 39, 40, LAST):
                before = STEPS[:1 + n]
                self.assertEqual(last(*STEPS, then(n, 1, t)), [0, last(*before, reserved(1, t))[1]])
                self.assertEqual(last(*STEPS, was(n, 1, t)), last(*before, keeper(1, t)))

    def test_behind_all_of_them_it_is_as_now(self):
        for t in (0, 12, 25, 45, LAST):
            found = ask(*STEPS, then(5, 1, t), reserved(1, t), was(5, 1, t), keeper(1, t))[-4:]
            self.assertEqual(found[0], found[1][:2])
            self.assertEqual(found[2], found[3])

    def test_behind_none_nothing_was_known(self):
        self.assertEqual(last(*STEPS, then(0, 1, LAST)), [0, 0])
        self.assertEqual(last(*STEPS, was(0, 1, LAST)), [0, 0, 5, 0])
        self.assertEqual(last(then(0, 6, 0)), [0, 0])
        self.assertEqual(last(journey(), was(0, 1, 0)), [0, 0, 1, 0])

    def test_one_more_than_there_were(self):
        for count in (0, 1, 3, 5):
            before = STEPS[:1 + count]
            for make in (then, was):
                self.assertEqual(last(*before, make(count, 1, 5))[0], 0)
                for n in (count + 1, 40):
                    self.check_refused(before, make(n, 1, 5), -3)

    def test_forty_tells_and_letters(self):
        forty = [journey(route=ROUTE)] + [tell(left(1, minute=5)), letter("")] * 20
        self.assertEqual(last(*forty, then(40, 1, 5)), [0, 1000])
        self.assertEqual(last(*forty, was(40, 1, 5)), [0, 1, 5, 7])
        self.check_refused(forty[:-1], then(40, 1, 5), -3)
        self.check_refused(forty[:-1], was(40, 1, 5), -3)

    def test_no_news_and_news_known_already_count_too(self):
        calls = [journey(route=ROUTE), tell(), tell(left(1)), letter(""), tell(left(1)), tell(cleared(2))]
        self.assertEqual([last(*calls, then(n, 1, 40)) for n in range(6)],
                         [[0, 0], [0, 0], [0, 1000], [0, 1000], [0, 1000], [0, 0]])

    def test_journeys_are_as_they_are_now(self):
        calls = [journey(route=ROUTE, money=10), tell(left(1)), journey(route=ROUTE, money=7), tell(left(2, j=2, minute=12))]
        self.assertEqual([last(*calls, then(n, 1, 12)) for n in range(3)], [[0, 0], [0, 10], [0, 17]])
        for n, held in ((0, [0, 5, 0]), (1, [0, 5, 0]), (2, [1, 5, 7])):
            self.assertEqual(last(*calls, was(n, 2, 12)), [0] + held)

    def test_a_refused_tell_or_letter_in_between_does_not_count(self):
        refused = [
            tell(left(9, j=2)), tell_row([1]), tell(left(0)), letter("7"), letter([256]), letter(form_of(left(9, j=2))),
            would(form_of(left(9, minute=1))),
        ]
        calls = [STEPS[0]]
        for step in STEPS[1:]:
            calls += [refused[len(calls) % 7], refused[(len(calls) + 3) % 7], step]
        for n, minutes in enumerate(KNOWN_THEN):
            for t, (total, held) in zip((12, 25, 45), minutes):
                self.assertEqual(last(*calls, then(n, 1, t)), [0, total])
                self.assertEqual(last(*calls, was(n, 1, t)), [0] + held)
        self.check_refused(calls, then(6, 1, 5), -3)

    def test_looking_back_changes_nothing_that_comes_behind(self):
        calls = STEPS[:3] + [then(1, 1, 12), was(0, 1, 12)] + STEPS[3:]
        for t in (12, 25, 45):
            self.assertEqual(last(*calls, keeper(1, t)), last(*STEPS, keeper(1, t)))
            self.assertEqual(last(*calls, then(5, 1, t)), last(*STEPS, then(5, 1, t)))

    def test_each_principal_has_its_own(self):
        calls = [journey(p=2, money=4, route=ROUTE), journey(p=6, money=9, route=ROUTE), tell(left(1), left(2, j=2))]
        self.assertEqual([last(*calls, then(1, p, 10)) for p in range(1, 7)], [[0, 0], [0, 4], [0, 0], [0, 0], [0, 0], [0, 9]])

    def test_ranges(self):
        forty = [journey(route=ROUTE), tell(left(1))] + [tell()] * 39
        for make in (then, was):
            self.check_range(forty, lambda n: make(n, 1, 5), 0, 40)
            self.check_range(STEPS, lambda t: make(2, 1, t), 0, LAST)
        self.check_range(STEPS, lambda p: then(2, p, 5), 1, 6)
        self.check_journey_range([STEPS[0]] * 2 + STEPS[1:], lambda j: was(2, j, 5), 2)

    def test_which_refusal_comes_first(self):
        for n, p, t in ((6, 0, 5), (6, 7, 5), (6, 1, -1), (6, 1, LAST + 1), (41, 1, 5), (-1, 1, 5), (FAR, FAR, FAR)):
            self.check_refused(STEPS, then(n, p, t), -1)
        for n, j, t in ((6, 0, 5), (6, 100, 5), (6, 2, -1), (6, 1, LAST + 1), (41, 2, 5), (-1, 2, 5), (2, 2, -1), (-FAR, FAR, 0)):
            self.check_refused(STEPS, was(n, j, t), -1)
        for n, j in ((6, 1), (2, 2), (6, 2), (40, 99)):
            self.check_refused(STEPS, was(n, j, 5), -3)
        self.check_refused([], then(1, 1, 0), -3)
        self.check_refused([], was(0, 1, 0), -3)

    def test_the_third_promise_holds_of_what_was_known_too(self):
        chance = random.Random(16)
        for again in range(40):
            calls = [journey(money=chance.randint(1, 9), route=ROUTE) for j in range(4)]
            for k in range(8):
                told = [
                    news(chance.randint(1, 12), chance.randint(1, 3), chance.randint(1, 4), *chance.choice(((5, 0), (2, 1), (7, 3), (7, 4))),
                         chance.randint(0, 9)) for again in range(chance.randint(0, 4))
                ]
                calls.append(tell(*told) if chance.random() < 0.5 else letter(form_of(*told)))
            for n in range(9):
                before = calls[:4 + n]
                sums = [answer[1] for answer in ask(*before, *[reserved(1, t) for t in range(10)])[4 + n:]]
                self.assertEqual([answer[1] for answer in ask(*calls, *[then(n, 1, t) for t in range(10)])[12:]], sums)
                greatest, minute = last(*before, [11, 1])[1:3]
                self.assertEqual(max(sums), greatest)
                self.assertEqual(last(*calls, then(n, 1, minute)), [0, greatest])


if __name__ == "__main__":
    unittest.main()
