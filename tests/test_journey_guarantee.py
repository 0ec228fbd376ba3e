"""Calls 0 journey and 1 guarantee."""

import unittest

from tests.helper import DeskTest, FAR, LAST, ask, guarantee, journey, last, news, reserved, tell, way


class JourneyTest(DeskTest):
    def test_numbers_rise_and_the_share_is_told(self):
        self.assertEqual(
            ask(journey(money=1000, hundredths=30), journey(p=6, money=200, hundredths=100)),
            [[0, 1, 300], [0, 2, 200]])

    def test_shares_are_rounded_up(self):
        for money, hundredths, share in (
            (0, 1, 0), (0, 100, 0), (1, 1, 1), (1, 100, 1), (99, 1, 1), (100, 1, 1), (101, 1, 2),
            (199, 50, 100), (200, 50, 100), (201, 50, 101), (LAST, 100, LAST), (LAST - 1, 99, 989999999 + 1),
            (LAST, 1, LAST // 100), (3, 33, 1), (4, 33, 2),
        ):
            self.assertEqual(last(journey(money=money, hundredths=hundredths)), [0, 1, share], (money, hundredths))

    def test_routes_of_two_and_of_six_offices(self):
        for route in ((9, 1), (1, 9, 2, 8, 3, 7)):
            self.assertEqual(last(journey(route=route)), [0, 1, 1000])

    def test_ranges(self):
        self.check_range([], lambda p: journey(p=p), 1, 6)
        self.check_range([], lambda money: journey(money=money), 0, LAST)
        self.check_range([], lambda hundredths: journey(hundredths=hundredths), 1, 100)
        self.check_range([], lambda limit: journey(limit=limit), 1, 1000000)
        self.check_range([], lambda office: journey(route=(4, office)), 1, 9)
        self.check_range([], lambda office: journey(route=(office, 4, 5, 6, 7, 8)), 1, 9)
        self.check_range([], lambda office: journey(route=(3, 4, office, 6, 7, 8)), 1, 9)
        self.check_range([], lambda office: journey(route=(3, 4, 5, 6, 7, office)), 1, 9)

    def test_routes_empty_too_short_and_too_long(self):
        for route in ((), (1,), (1, 2, 3, 4, 5, 6, 7), tuple(range(1, 10)), (1,) * 1200, (FAR,) * 1200):
            self.check_refused([journey()], journey(route=route), -1)

    def test_an_office_told_twice(self):
        for route in ((1, 1), (1, 2, 1), (1, 2, 3, 4, 5, 5), (2, 1, 1, 3), (9, 1, 2, 3, 4, 9)):
            self.check_refused([journey()], journey(route=route), -5)

    def test_sixteen_and_no_more(self):
        sixteen = [journey(p=1 + k % 6) for k in range(16)]
        self.assertEqual([answer[1] for answer in ask(*sixteen)], list(range(1, 17)))
        self.check_refused(sixteen, journey(), -6)
        self.assertEqual(last(*sixteen, way(16)), [0, 0])
        self.assertEqual(last(*sixteen, journey(), way(17)), [-3])

    def test_which_refusal_comes_first(self):
        sixteen = [journey()] * 16
        self.check_refused([], journey(p=0, route=(1, 1)), -1)
        self.check_refused([], journey(route=(1, 1, 10)), -1)
        self.check_refused([], journey(route=(1, 1, 2, 3, 4, 5, 6)), -1)
        self.check_refused(sixteen, journey(limit=0), -1)
        self.check_refused(sixteen, journey(route=(1,)), -1)
        self.check_refused(sixteen, journey(money=-1, route=(1, 1)), -1)
        self.check_refused(sixteen, journey(route=(1, 1)), -5)

    def test_a_refused_one_takes_no_number(self):
        self.assertEqual(
            ask(journey(), journey(p=0), journey(route=(1, 1)), journey(route=(1,)), journey()),
            [[0, 1, 1000], [-1], [-5], [-1], [0, 2, 1000]])


class GuaranteeTest(DeskTest):
    def test_counts_those_of_all_principals(self):
        self.assertEqual(
            ask(guarantee(1, 0, 5), guarantee(2, 0, 5), guarantee(1, 9, 5), guarantee(6, LAST, LAST)),
            [[0, 1], [0, 2], [0, 3], [0, 4]])

    def test_is_from_its_minute_till_the_next_at_first_0(self):
        told = [guarantee(1, 20, 7), guarantee(1, 10, 5), guarantee(2, 15, 99), guarantee(1, 30, 0)]
        for minute, money in ((0, 0), (9, 0), (10, 5), (19, 5), (20, 7), (29, 7), (30, 0), (LAST, 0)):
            self.assertEqual(last(*told, reserved(1, minute)), [0, 0, money, 0], minute)
        self.assertEqual(last(*told, reserved(2, 14)), [0, 0, 0, 0])
        self.assertEqual(last(*told, reserved(2, 15)), [0, 0, 99, 0])
        self.assertEqual(last(*told, reserved(3, LAST)), [0, 0, 0, 0])

    def test_another_from_the_same_minute_goes(self):
        for first, second in ((5, 9), (9, 5), (5, 5), (5, 0)):
            self.assertEqual(
                ask(guarantee(1, 10, first), guarantee(1, 10, second), reserved(1, 10), reserved(1, 9)),
                [[0, 1], [0, 1], [0, 0, second, 0], [0, 0, 0, 0]])

    def test_one_of_another_principal_from_the_same_minute_stays(self):
        self.assertEqual(
            ask(guarantee(1, 10, 5), guarantee(2, 10, 6), reserved(1, 10), reserved(2, 10)),
            [[0, 1], [0, 2], [0, 0, 5, 0], [0, 0, 6, 0]])

    def test_ranges(self):
        self.check_range([], lambda p: guarantee(p, 5, 5), 1, 6)
        self.check_range([], lambda t: guarantee(1, t, 5), 0, LAST)
        self.check_range([], lambda money: guarantee(1, 5, money), 0, LAST)

    def test_twenty_and_no_more(self):
        twenty = [guarantee(1 + k % 2, 10 + k, k) for k in range(20)]
        self.assertEqual([answer[1] for answer in ask(*twenty)], list(range(1, 21)))
        self.check_refused(twenty, guarantee(1, 9, 5), -6)
        self.check_refused(twenty, guarantee(3, 9, 5), -6)
        # Those of the first begin at even minutes alone, the second's at odd ones.
        self.check_refused(twenty, guarantee(2, 10, 5), -6)
        self.check_refused(twenty, guarantee(1, 27, 5), -6)
        self.assertEqual(ask(*twenty, guarantee(1, 10, 77), reserved(1, 10))[20:], [[0, 20], [0, 0, 77, 0]])
        self.assertEqual(last(*twenty, guarantee(1, 9, 5), guarantee(2, 29, 8)), [0, 20])

    def test_which_refusal_comes_first(self):
        twenty = [guarantee(1, k, k) for k in range(20)]
        for wrong in (guarantee(7, 30, 5), guarantee(1, -1, 5), guarantee(1, 30, LAST + 1), guarantee(1, 5, -1)):
            self.check_refused(twenty, wrong, -1)

    def test_a_refused_one_changes_nothing(self):
        before = [journey(), tell(news(1, minute=3)), guarantee(1, 5, 40)]
        self.check_refused(before, guarantee(1, 5, -1), -1)
        self.check_refused(before, guarantee(0, 5, 1), -1)
        self.assertEqual(last(*before, guarantee(1, 6, -1), guarantee(1, 7, 1)), [0, 2])


if __name__ == "__main__":
    unittest.main()
