"""Calls 10 reserved, 11 peak and 12 shorts, and the third promise."""

import random
import unittest

from tests.helper import (
    DeskTest, FAR, LAST, ask, guarantee, journey, last, news, peak, reserved, row_of, shorts, tell,
)


def left(number, j, minute):
    return news(number, j=j, office=1, told=0, minute=minute)


def cleared(number, j, minute):
    return news(number, j=j, office=4, told=3, minute=minute)


# Two of the first principal that overlap from 20 to 29, and one of the second.
OVERLAP = [
    journey(money=101, hundredths=50), journey(money=10), journey(p=2, money=7),
    tell(left(1, 1, 10), cleared(2, 1, 30), left(3, 2, 20), cleared(4, 2, 40), left(5, 3, 15)),
]


class ReservedTest(DeskTest):
    def test_out_from_leaving_till_before_clearing(self):
        for minutes, total, which in (
            ((0, 9), 0, []), ((10, 19), 51, [1]), ((20, 29), 61, [1, 2]), ((30, 39), 10, [2]), ((40, LAST), 0, []),
        ):
            for minute in minutes:
                self.assertEqual(last(*OVERLAP, reserved(1, minute)), [0, total, 0, len(which)] + which, minute)

    def test_each_principal_has_its_own(self):
        self.assertEqual(last(*OVERLAP, reserved(2, 14)), [0, 0, 0, 0])
        self.assertEqual(last(*OVERLAP, reserved(2, 15)), [0, 7, 0, 1, 3])
        self.assertEqual(last(*OVERLAP, reserved(2, LAST)), [0, 7, 0, 1, 3])
        self.assertEqual(last(*OVERLAP, reserved(3, 20)), [0, 0, 0, 0])

    def test_the_guarantee_of_that_minute(self):
        calls = OVERLAP + [guarantee(1, 20, 60), guarantee(1, 5, 50), guarantee(2, 0, 9)]
        for minute, money in ((4, 0), (5, 50), (19, 50), (20, 60), (LAST, 60)):
            self.assertEqual(last(*calls, reserved(1, minute))[2], money)

    def test_left_and_cleared_in_the_same_minute_is_never_out(self):
        calls = [journey(), tell(left(1, 1, 10), cleared(2, 1, 10))]
        for minute in (9, 10, 11):
            self.assertEqual(last(*calls, reserved(1, minute)), [0, 0, 0, 0])

    def test_a_way_of_clearing_alone_is_never_out(self):
        calls = [journey(), tell(cleared(2, 1, 10))]
        for minute in (9, 10, 11):
            self.assertEqual(last(*calls, reserved(1, minute)), [0, 0, 0, 0])

    def test_arriving_does_not_end_it(self):
        calls = [journey(), tell(left(1, 1, 10), news(2, office=4, told=2, minute=20))]
        self.assertEqual(last(*calls, reserved(1, LAST)), [0, 1000, 0, 1, 1])

    def test_left_is_the_ways_first_news_whatever_it_tells(self):
        for office, told in ((2, 1), (4, 2)):
            calls = [journey(), tell(news(1, office=office, told=told, minute=10))]
            self.assertEqual(last(*calls, reserved(1, 9)), [0, 0, 0, 0])
            self.assertEqual(last(*calls, reserved(1, 10)), [0, 1000, 0, 1, 1])

    def test_a_clearing_that_is_left_out_ends_nothing(self):
        calls = [journey(), tell(left(1, 1, 10), cleared(2, 1, 9))]
        self.assertEqual(last(*calls, reserved(1, 11)), [0, 1000, 0, 1, 1])

    def test_a_share_of_0_is_out_too(self):
        calls = [journey(money=0), journey(money=1, hundredths=1), tell(left(1, 1, 10), left(2, 2, 11))]
        self.assertEqual(last(*calls, reserved(1, 10)), [0, 0, 0, 1, 1])
        self.assertEqual(last(*calls, reserved(1, 11)), [0, 1, 0, 2, 1, 2])

    def test_shares_are_rounded_up_each_by_itself(self):
        calls = [journey(money=1, hundredths=50)] * 4 + [tell(*[left(k, k, 5) for k in range(1, 5)])]
        self.assertEqual(last(*calls, reserved(1, 5)), [0, 4, 0, 4, 1, 2, 3, 4])

    def test_sixteen_of_the_greatest(self):
        calls = [journey(money=LAST)] * 16
        calls += [tell(*[left(k, k, 5) for k in range(1, 9)]), tell(*[left(k, k, 5) for k in range(9, 17)])]
        self.assertEqual(last(*calls, reserved(1, 5)), [0, 16 * LAST, 0, 16] + list(range(1, 17)))
        self.assertEqual(last(*calls, peak(1)), [0, 16 * LAST, 5, 16] + list(range(1, 17)))

    def test_ranges(self):
        self.check_range(OVERLAP, lambda p: reserved(p, 20), 1, 6)
        self.check_range(OVERLAP, lambda t: reserved(1, t), 0, LAST)
        self.check_refused(OVERLAP, reserved(FAR, -FAR), -1)


class PeakTest(DeskTest):
    def test_the_greatest_sum_and_its_first_minute(self):
        self.assertEqual(last(*OVERLAP, peak(1)), [0, 61, 20, 2, 1, 2])
        self.assertEqual(last(*OVERLAP, peak(2)), [0, 7, 15, 1, 3])
        self.assertEqual(last(*OVERLAP, peak(3)), [0, 0, 0, 0])

    def test_the_first_of_several_like_sums(self):
        calls = [journey(money=5), journey(money=9), journey(money=9)]
        for first, second in ((2, 3), (3, 2)):
            told = tell(left(1, first, 10), cleared(2, first, 20), left(3, second, 20), cleared(4, second, 25), left(5, 1, 40))
            self.assertEqual(last(*calls, told, peak(1)), [0, 9, 10, 1, first])

    def test_it_does_not_grow_where_one_leaves_as_another_is_cleared(self):
        calls = [journey(money=9), journey(money=8), tell(left(1, 1, 10), cleared(2, 1, 20), left(3, 2, 20))]
        self.assertEqual(last(*calls, peak(1)), [0, 9, 10, 1, 1])

    def test_sum_0_is_at_minute_0(self):
        self.assertEqual(last(peak(1)), [0, 0, 0, 0])
        self.assertEqual(last(journey(), peak(1)), [0, 0, 0, 0])
        self.assertEqual(last(journey(), tell(left(1, 1, 10), cleared(2, 1, 10)), peak(1)), [0, 0, 0, 0])
        self.assertEqual(last(journey(money=0), tell(left(1, 1, 10)), peak(1)), [0, 0, 0, 0])
        self.assertEqual(last(journey(money=0), tell(left(1, 1, 0)), peak(1)), [0, 0, 0, 1, 1])

    def test_a_share_of_0_is_told_at_the_peak_too(self):
        calls = [journey(money=0), journey(money=3), tell(left(1, 1, 2), left(2, 2, 4))]
        self.assertEqual(last(*calls, peak(1)), [0, 3, 4, 2, 1, 2])

    def test_the_first_and_the_last_minute(self):
        self.assertEqual(last(journey(), tell(left(1, 1, 0)), peak(1)), [0, 1000, 0, 1, 1])
        self.assertEqual(last(journey(), tell(left(1, 1, LAST)), peak(1)), [0, 1000, LAST, 1, 1])

    def test_guarantees_do_not_matter(self):
        self.assertEqual(last(*OVERLAP, guarantee(1, 0, 500), peak(1)), [0, 61, 20, 2, 1, 2])

    def test_ranges(self):
        self.check_range(OVERLAP, peak, 1, 6)


class ShortsTest(DeskTest):
    def shorts_of(self, *calls, p=1):
        return row_of(last(*calls, shorts(p)), 4)

    def test_without_guarantees(self):
        self.assertEqual(self.shorts_of(*OVERLAP), [(10, 20, 51, 0), (20, 30, 61, 0), (30, 40, 10, 0)])
        self.assertEqual(self.shorts_of(*OVERLAP, p=2), [(15, -1, 7, 0)])
        self.assertEqual(self.shorts_of(*OVERLAP, p=3), [])

    def test_just_covered_is_not_short(self):
        self.assertEqual(self.shorts_of(*OVERLAP, guarantee(1, 0, 61)), [])
        self.assertEqual(self.shorts_of(*OVERLAP, guarantee(1, 0, 60)), [(20, 30, 61, 60)])
        self.assertEqual(self.shorts_of(*OVERLAP, guarantee(1, 20, 61)), [(10, 20, 51, 0)])

    def test_a_guarantees_beginning_is_a_turn(self):
        self.assertEqual(
            self.shorts_of(*OVERLAP, guarantee(1, 25, 60), guarantee(1, 27, 61), guarantee(1, 35, 5), guarantee(1, 50, 0)),
            [(10, 20, 51, 0), (20, 25, 61, 0), (25, 27, 61, 60), (35, 40, 10, 5)])
        self.assertEqual(
            self.shorts_of(*OVERLAP, guarantee(1, 12, 0)),
            [(10, 12, 51, 0), (12, 20, 51, 0), (20, 30, 61, 0), (30, 40, 10, 0)])

    def test_another_principals_turns_are_not_its(self):
        self.assertEqual(self.shorts_of(*OVERLAP, guarantee(2, 12, 500), guarantee(3, 25, 1)),
                         self.shorts_of(*OVERLAP))

    def test_a_guarantee_told_anew_from_the_same_minute(self):
        calls = OVERLAP + [guarantee(1, 0, 61), guarantee(1, 0, 55)]
        self.assertEqual(self.shorts_of(*calls), [(20, 30, 61, 55)])
        self.assertEqual(self.shorts_of(*calls, guarantee(1, 0, 61)), [])

    def test_left_and_cleared_in_the_same_minute_is_a_turn_still(self):
        calls = [journey(money=5), journey(money=9), tell(left(1, 1, 10), left(2, 2, 20), cleared(3, 2, 20))]
        self.assertEqual(self.shorts_of(*calls), [(10, 20, 5, 0), (20, -1, 5, 0)])

    def test_several_things_in_one_minute_are_one_turn(self):
        calls = [journey(money=5), journey(money=9), journey(money=1), guarantee(1, 20, 3), tell(
            left(1, 1, 10), cleared(2, 1, 20), left(3, 2, 20), left(4, 3, 20), cleared(5, 2, 30))]
        self.assertEqual(self.shorts_of(*calls), [(10, 20, 5, 0), (20, 30, 10, 3)])

    def test_the_last_turn_has_none_behind_it(self):
        self.assertEqual(self.shorts_of(journey(), tell(left(1, 1, LAST))), [(LAST, -1, 1000, 0)])
        self.assertEqual(self.shorts_of(journey(), tell(left(1, 1, 0)), guarantee(1, LAST, 999)),
                         [(0, LAST, 1000, 0), (LAST, -1, 1000, 999)])

    def test_a_share_of_0_is_never_short_but_has_turns(self):
        calls = [journey(money=0), tell(left(1, 1, 10), cleared(2, 1, 30))]
        self.assertEqual(self.shorts_of(*calls), [])
        calls = [journey(money=0), journey(money=4), tell(left(1, 1, 10), cleared(2, 1, 30), left(3, 2, 5))]
        self.assertEqual(self.shorts_of(*calls), [(5, 10, 4, 0), (10, 30, 4, 0), (30, -1, 4, 0)])

    def test_nothing_told(self):
        self.assertEqual(last(shorts(1)), [0, 0])
        self.assertEqual(last(guarantee(1, 5, 5), shorts(1)), [0, 0])

    def test_news_put_right_move_the_turns(self):
        calls = [journey(money=5), tell(left(1, 1, 10)), tell(news(1, 2, minute=12))]
        self.assertEqual(self.shorts_of(*calls), [(12, -1, 5, 0)])
        self.assertEqual(self.shorts_of(*calls, tell(news(1, 3, told=4))), [])

    def test_ranges(self):
        self.check_range(OVERLAP, shorts, 1, 6)


class ThirdPromiseTest(DeskTest):
    def test_the_peak_is_at_least_what_is_out_at_each_minute_and_is_reached(self):
        chance = random.Random(3)
        for again in range(200):
            calls = [journey(p=chance.randint(1, 2), money=chance.randint(0, 9)) for j in range(8)]
            for j in range(1, 9):
                begin = chance.randint(0, 12)
                told = [left(j, j, begin)]
                if chance.randint(0, 3):
                    told.append(cleared(100 + j, j, begin + chance.randint(0, 8)))
                calls.append(tell(*told))
            for p in (1, 2):
                found = ask(*calls, peak(p), *[reserved(p, t) for t in range(22)])[len(calls):]
                greatest, minute = found[0][1:3]
                sums = [answer[1] for answer in found[1:]]
                self.assertEqual(greatest, max(sums))
                self.assertEqual(minute, sums.index(greatest) if greatest else 0)
                self.assertEqual(found[0][3:], found[1 + minute][3:])


if __name__ == "__main__":
    unittest.main()
