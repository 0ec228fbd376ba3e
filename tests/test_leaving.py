"""Calls 14 may and 26 when: at which minute a journey may leave."""

import random
import unittest

from tests.helper import (
    DeskTest, FAR, LAST, ask, guarantee, journey, last, may, news, reserved, tell, when,
)


def left(number, j, minute):
    return news(number, j=j, office=1, told=0, minute=minute)


def cleared(number, j, minute):
    return news(number, j=j, office=4, told=3, minute=minute)


# The first, of share 10, asks; the second, of share 51, is out from 20 till before 40.
ONE_OUT = [journey(money=10), journey(money=101, hundredths=50), tell(left(1, 2, 20), cleared(2, 2, 40))]


class LeavingTest(DeskTest):
    def check_leaving(self, calls, t, first, j=1):
        """From t on the journey may leave at first, None if it never may; may agrees."""
        self.assertEqual(last(*calls, when(j, t)), [0, 0] if first is None else [0, 1, first], t)
        self.assertEqual(last(*calls, may(j, t)), [0, 1 if first == t else 0], t)

    def test_just_covered_and_missed_by_one_at_the_minute_itself(self):
        for money, first in ((9, None), (10, 5), (11, 5)):
            self.check_leaving([journey(money=10), guarantee(1, 0, money)], 5, first)
        for money, first in ((60, 40), (61, 20), (62, 20)):
            self.check_leaving([*ONE_OUT, guarantee(1, 0, money)], 20, first)

    def test_just_covered_and_missed_by_one_at_a_later_turn(self):
        for money, first in ((60, 40), (61, 5), (62, 5)):
            self.check_leaving([*ONE_OUT, guarantee(1, 0, money)], 5, first)

    def test_its_share_rounded_up_is_what_counts(self):
        calls = [journey(money=101, hundredths=50), guarantee(1, 0, 50)]
        self.check_leaving(calls, 0, None)
        self.check_leaving(calls + [guarantee(1, 0, 51)], 0, 0)

    def test_at_a_turn_between_turns_and_behind_the_last(self):
        calls = [*ONE_OUT, guarantee(1, 0, 60)]
        for t, first in ((0, 40), (19, 40), (20, 40), (21, 40), (39, 40), (40, 40), (41, 41), (LAST, LAST)):
            self.check_leaving(calls, t, first)
        calls = [*ONE_OUT, guarantee(1, 0, 61)]
        for t in (0, 19, 20, 21, 39, 40, 41, LAST):
            self.check_leaving(calls, t, t)

    def test_a_guarantee_that_is_less_later(self):
        calls = [journey(money=10), guarantee(1, 0, 50), guarantee(1, 30, 10), guarantee(1, 60, 9)]
        for t in (0, 29, 30, 59, 60, 61, LAST):
            self.check_leaving(calls, t, None)
        calls.append(guarantee(1, 60, 10))
        for t in (0, 29, 30, 59, 60, 61, LAST):
            self.check_leaving(calls, t, t)

    def test_a_guarantee_that_is_more_later(self):
        calls = [journey(money=10), guarantee(1, 30, 9), guarantee(1, 60, 10)]
        for t, first in ((0, 60), (30, 60), (59, 60), (60, 60), (61, 61)):
            self.check_leaving(calls, t, first)

    def test_a_guarantee_that_is_less_for_a_while(self):
        calls = [journey(money=10), guarantee(1, 0, 10), guarantee(1, 30, 9), guarantee(1, 35, 12)]
        for t, first in ((0, 35), (29, 35), (30, 35), (34, 35), (35, 35), (36, 36)):
            self.check_leaving(calls, t, first)

    def test_no_guarantee(self):
        self.check_leaving([journey(money=1, hundredths=1)], 0, None)
        self.check_leaving([journey(money=1), guarantee(2, 0, 100)], LAST, None)

    def test_a_share_of_0(self):
        self.check_leaving([journey(money=0)], 0, 0)
        self.check_leaving([journey(money=0)], LAST, LAST)
        # It needs nothing itself, yet what's out of the others must be covered.
        calls = [journey(money=0), *ONE_OUT[1:]]
        for t, first in ((0, 40), (19, 40), (20, 40), (39, 40), (40, 40), (50, 50)):
            self.check_leaving(calls, t, first)
        self.check_leaving([*calls, guarantee(1, 20, 51)], 0, 0)
        self.check_leaving([*calls, guarantee(1, 21, 51)], 0, 21)

    def test_a_turn_that_frees_enough_comes_only_at_the_end(self):
        calls = [journey(money=10), journey(money=5), journey(money=7), guarantee(1, 0, 15), tell(
            left(1, 2, 10), cleared(2, 2, 30), left(3, 3, 20), cleared(4, 3, 50))]
        for t, first in ((0, 50), (10, 50), (30, 50), (49, 50), (50, 50), (51, 51)):
            self.check_leaving(calls, t, first)
        self.check_leaving([*calls, guarantee(1, 20, 22)], 0, 0)
        self.check_leaving([*calls, guarantee(1, 20, 21)], 0, 30)

    def test_what_is_never_cleared_is_out_for_good(self):
        calls = [journey(money=10), journey(money=5), tell(left(1, 2, 10)), guarantee(1, 0, 14)]
        for t in (0, 10, LAST):
            self.check_leaving(calls, t, None)
        self.check_leaving([*calls, guarantee(1, LAST, 15)], 0, LAST)
        self.check_leaving([*calls, guarantee(1, LAST, 15)], LAST, LAST)

    def test_the_last_minute_is_a_turn_like_others(self):
        calls = [journey(money=10), guarantee(1, 0, 10), guarantee(1, LAST, 9)]
        self.check_leaving(calls, LAST - 1, None)
        self.check_leaving(calls, LAST, None)

    def test_another_principals_journeys_and_guarantees_do_not_matter(self):
        calls = [journey(money=10), journey(p=2, money=99), guarantee(1, 0, 10), tell(left(1, 2, 5)), guarantee(2, 7, 3)]
        for t in (0, 5, 6, 7):
            self.check_leaving(calls, t, t)
        # The turns of another one aren't minutes to leave at either.
        calls = [journey(money=10), journey(p=2, money=99), guarantee(1, 9, 10), tell(left(1, 2, 5)), guarantee(2, 7, 99)]
        self.check_leaving(calls, 0, 9)

    def test_something_on_its_way(self):
        for told in (left(1, 1, 90), cleared(1, 1, 0), news(1, office=2, told=1, minute=4), news(1, office=4, told=2, minute=4)):
            before = [journey(money=0), guarantee(1, 0, LAST), tell(told)]
            for t in (0, 5, LAST):
                self.check_refused(before, may(1, t), -7)
                self.check_refused(before, when(1, t), -7)

    def test_news_but_none_on_its_way(self):
        for told in (news(1, office=9, told=0), news(1, office=1, told=1), news(1, office=1, told=4), news(1, office=4, told=0)):
            self.check_leaving([journey(money=10), guarantee(1, 0, 10), tell(told)], 5, 5)
        calls = [journey(money=10), guarantee(1, 0, 10), tell(left(1, 1, 5)), tell(news(1, 2, told=4))]
        self.check_leaving(calls, 5, 5)

    def test_others_that_have_not_left_are_not_out(self):
        self.check_leaving([journey(money=10), journey(money=10), guarantee(1, 0, 10)], 3, 3)
        self.check_leaving([journey(money=10), journey(money=10), guarantee(1, 0, 10)], 3, 3, j=2)

    def test_left_and_cleared_in_the_same_minute_takes_nothing(self):
        calls = [journey(money=10), journey(money=99), guarantee(1, 0, 10), tell(left(1, 2, 20), cleared(2, 2, 20))]
        self.check_leaving(calls, 0, 0)
        self.check_leaving(calls, 20, 20)

    def test_ranges_and_which_refusal_comes_first(self):
        before = [journey(money=0), journey(money=0), journey(money=0), tell(left(1, 2, 5))]
        for make in (may, when):
            self.check_range(before, lambda t: make(1, t), 0, LAST)
            self.check_journey_range(before, lambda j: make(j, 3), 3)
            for t in (-1, LAST + 1, FAR, -FAR):
                self.check_refused(before, make(2, t), -1)
                self.check_refused(before, make(4, t), -1)
                self.check_refused(before, make(0, t), -1)
            self.check_refused(before, make(4, 5), -3)
            self.check_refused(before, make(2, 5), -7)
            self.check_refused([], make(1, 0), -3)

    def test_what_it_says_is_what_covers_every_minute(self):
        chance = random.Random(14)
        for again in range(150):
            calls = [journey(money=chance.randint(0, 6)) for j in range(5)]
            for j in range(2, 6):
                begin = chance.randint(0, 10)
                told = [left(j, j, begin)] + [cleared(100 + j, j, begin + chance.randint(0, 6))] * (chance.random() < 0.8)
                calls.append(tell(*told))
            calls += [guarantee(1, chance.randint(0, 14), chance.randint(0, 20)) for k in range(5)]
            share = ask(calls[0])[0][2]
            minutes = [answer[1:3] for answer in ask(*calls, *[reserved(1, t) for t in range(20)])[len(calls):]]
            fits = [out + share <= money for out, money in minutes]
            for t in range(18):
                first = next((m for m in range(t, 20) if all(fits[m:])), None)
                self.check_leaving(calls, t, first)


if __name__ == "__main__":
    unittest.main()
