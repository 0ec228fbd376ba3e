"""Call 15 plan, and the fourth promise."""

import itertools
import random
import unittest

from tests.helper import DeskTest, FAR, LAST, guarantee, journey, last, news, plan, plan_row, planned, tell


def share_of(money, hundredths):
    return -(-money * hundredths // 100)


def greatest_of(all_planned, minutes):
    """The greatest sum out if each leaves at its minute, looked up at every minute that matters."""
    stays = [(begin, begin + one[2], share_of(one[0], one[1])) for one, begin in zip(all_planned, minutes)]
    moments = {edge + by for begin, end, share in stays for edge in (begin, end) for by in (-1, 0, 1)}
    return max(sum(share for begin, end, share in stays if begin <= moment < end) for moment in moments)


def all_ways(all_planned):
    return list(itertools.product(*[one[4:] for one in all_planned]))


class PlanTest(DeskTest):
    def check_plan(self, all_planned, greatest, minutes):
        self.assertEqual(last(plan(*all_planned)), [0, greatest, len(minutes), *minutes])

    def test_one_journey_with_one_minute(self):
        self.check_plan([planned(1000, 5, [7], hundredths=30)], 300, [7])
        self.check_plan([planned(0, 1, [0])], 0, [0])
        self.check_plan([planned(LAST, 1000000, [LAST])], LAST, [LAST])

    def test_one_journey_leaves_at_its_first_minute_told(self):
        self.check_plan([planned(9, 5, [7, 3, 90, 0])], 9, [7])

    def test_shares_are_rounded_up_each_by_itself(self):
        self.check_plan([planned(1, 5, [7], hundredths=1), planned(101, 5, [7], hundredths=50)], 52, [7, 7])

    def test_two_that_can_go_one_behind_the_other(self):
        self.check_plan([planned(5, 10, [0]), planned(7, 10, [0, 5, 10, 20])], 7, [0, 10])
        self.check_plan([planned(5, 10, [0]), planned(7, 10, [0, 9])], 12, [0, 0])
        self.check_plan([planned(5, 10, [10]), planned(7, 10, [1, 0])], 7, [10, 0])

    def test_one_that_ends_just_as_another_begins(self):
        self.check_plan([planned(5, 10, [0]), planned(7, 10, [10])], 7, [0, 10])
        self.check_plan([planned(5, 11, [0]), planned(7, 10, [10])], 12, [0, 10])
        self.check_plan([planned(7, 10, [10]), planned(5, 10, [0])], 7, [10, 0])
        self.check_plan([planned(7, 10, [10]), planned(5, 11, [0])], 12, [10, 0])
        self.check_plan([planned(1, 1, [5]), planned(1, 1, [6]), planned(1, 1, [4])], 1, [5, 6, 4])

    def test_of_like_ways_the_first(self):
        # The first journey's minute changes last.
        self.check_plan([planned(5, 1, [0, 1]), planned(5, 1, [0, 1])], 5, [0, 1])
        self.check_plan([planned(5, 1, [1, 0]), planned(5, 1, [0, 1])], 5, [1, 0])
        self.check_plan([planned(5, 1, [3, 2, 1]), planned(5, 1, [3, 2, 1]), planned(5, 1, [3, 2, 1])], 5, [3, 2, 1])
        self.check_plan([planned(5, 9, [8, 3]), planned(1, 9, [4, 2, 6])], 6, [8, 4])
        self.check_plan([planned(5, 1, [0, 1]), planned(5, 1, [0]), planned(5, 1, [2, 1])], 5, [1, 0, 2])

    def test_a_lesser_sum_goes_before_an_earlier_way(self):
        self.check_plan([planned(5, 10, [0, 30]), planned(5, 10, [0, 5])], 5, [30, 0])
        self.check_plan([planned(5, 10, [0, 0, 0, 30]), planned(5, 10, [0, 1, 2, 3]), planned(1, 1, [10])], 5, [30, 0, 10])
        self.check_plan([planned(5, 10, [0, 0, 0, 30]), planned(5, 10, [0, 1, 2, 3]), planned(1, 1, [9])], 6, [30, 0, 9])

    def test_the_same_minute_told_twice(self):
        self.check_plan([planned(5, 10, [4, 4]), planned(6, 10, [4, 4, 4, 4])], 11, [4, 4])
        self.check_plan([planned(5, 10, [4, 4, 20]), planned(6, 10, [4, 4])], 6, [20, 4])

    def test_a_share_of_0(self):
        self.check_plan([planned(0, 10, [4, 9]), planned(0, 10, [4, 1])], 0, [4, 4])
        self.check_plan([planned(0, 10, [4, 9]), planned(6, 10, [4, 1])], 6, [4, 4])
        self.check_plan([planned(6, 10, [4, 9]), planned(0, 10, [4, 1]), planned(6, 3, [5, 1])], 6, [4, 4, 1])

    def test_six_journeys_with_four_minutes_each(self):
        self.check_plan([planned(10, 5, [0, 5, 10, 15])] * 6, 20, [0, 0, 5, 5, 10, 10])
        self.check_plan([planned(LAST, 1000000, [LAST, LAST, LAST, LAST])] * 6, 6 * LAST, [LAST] * 6)
        self.check_plan([planned(10, 5, [0, 5, 10, 15]) for k in range(4)], 10, [0, 5, 10, 15])

    def test_the_greatest_sum_may_lie_where_none_of_the_greatest_leaves(self):
        self.check_plan([planned(8, 100, [0]), planned(5, 100, [10]), planned(1, 1, [50])], 14, [0, 10, 50])
        self.check_plan([planned(1, 1, [50]), planned(5, 100, [10]), planned(8, 100, [0])], 14, [50, 10, 0])

    def test_the_ends_of_the_greatest_numbers(self):
        self.check_plan([planned(3, 1000000, [LAST - 1000000]), planned(4, 1, [LAST])], 4, [LAST - 1000000, LAST])
        self.check_plan([planned(3, 1000000, [LAST - 999999]), planned(4, 1, [LAST])], 7, [LAST - 999999, LAST])

    def test_what_was_told_does_not_matter(self):
        before = [journey(), guarantee(1, 0, 5), tell(news(1, minute=7))]
        self.assertEqual(last(*before, plan(planned(5, 10, [7]))), [0, 5, 1, 7])


class PlanRowsTest(DeskTest):
    def test_ranges(self):
        good = planned(3, 10, [1, 2])
        for place, low, high in ((0, 0, LAST), (1, 1, 100), (2, 1, 1000000), (4, 0, LAST), (5, 0, LAST)):
            for k in range(3):
                def make(number):
                    rows = [list(good) for again in range(3)]
                    rows[k][place] = number
                    return plan(*rows)
                self.check_range([journey()], make, low, high)

    def test_how_many_minutes_it_could_leave_at(self):
        for size in (1, 2, 3, 4):
            self.assertEqual(last(plan(planned(3, 10, range(size)))), [0, 3, 1, 0])
        for size in (0, 5, 6, 100):
            self.check_refused([], plan(planned(3, 10, range(size))), -1)
            self.check_refused([], plan(planned(3, 10, [1]), planned(3, 10, range(size))), -1)
        for told in (-1, 0, 5, FAR, -FAR):
            self.check_refused([], plan_row([3, 100, 10, told, 1, 2, 3, 4]), -1)
            self.check_refused([], plan_row([3, 100, 10, told]), -1)

    def test_how_many_journeys(self):
        for size in (1, 2, 5, 6):
            self.assertEqual(last(plan(*[planned(3, 10, [1])] * size)), [0, 3 * size, size] + [1] * size)
        self.check_refused([], plan(), -1)
        for size in (7, 8, 100, 240):
            self.check_refused([], plan(*[planned(3, 10, [1])] * size), -1)

    def test_rows_that_end_too_early_or_too_late(self):
        whole = planned(3, 10, [1, 2, 3, 4]) + planned(3, 10, [1]) + planned(3, 10, [1, 2])
        ends = (8, 13, 19)
        for size in range(len(whole) + 1):
            if size in ends:
                self.assertEqual(last(plan_row(whole[:size]))[:3:2], [0, ends.index(size) + 1])
            else:
                self.check_refused([journey()], plan_row(whole[:size]), -1)
        for more in ([1], [1, 1], [1, 1, 1], [1, 1, 1, 1], [0], [FAR]):
            self.check_refused([journey()], plan_row(whole + more), -1)
        six = planned(3, 10, [1]) * 6
        for more in ([1], [3, 100, 10, 1]):
            self.check_refused([journey()], plan_row(six + more), -1)

    def test_long_rows_and_far_numbers(self):
        for row in ([FAR] * 1200, [-FAR] * 1200, [1] * 1200, [0] * 1200, [FAR], [-FAR], [0], [1] * 4, [1] * 6):
            self.check_refused([journey(), tell(news(1))], plan_row(row), -1)


class FourthPromiseTest(DeskTest):
    def test_no_way_to_leave_needs_less(self):
        chance = random.Random(4)
        for again in range(150):
            size = chance.randint(1, 5)
            top = chance.choice((4, 12, 30))
            all_planned = [
                planned(chance.randint(0, 9), chance.randint(1, chance.choice((3, 12))),
                        [chance.randint(0, top) for k in range(chance.randint(1, 4))], hundredths=chance.choice((100, 100, 30)))
                for k in range(size)
            ]
            sums = [greatest_of(all_planned, minutes) for minutes in all_ways(all_planned)]
            answer = last(plan(*all_planned))
            self.assertEqual(answer[1], min(sums))
            self.assertEqual(tuple(answer[3:]), all_ways(all_planned)[sums.index(min(sums))])
            self.assertEqual(answer[2], size)

    def test_no_way_of_six_journeys_needs_less(self):
        chance = random.Random(44)
        for again in range(3):
            all_planned = [
                planned(chance.randint(1, 9), chance.randint(1, 12), [chance.randint(0, 20) for k in range(4)]) for j in range(6)
            ]
            sums = [greatest_of(all_planned, minutes) for minutes in all_ways(all_planned)]
            self.assertEqual(last(plan(*all_planned)),
                             [0, min(sums), 6, *all_ways(all_planned)[sums.index(min(sums))]])


if __name__ == "__main__":
    unittest.main()
