"""Calls 6 way, 7 faults, 8 missing and 9 seals."""

import unittest

from tests.helper import (
    DeskTest, FAR, LAST, ask, faults, journey, keeper, last, missing, news, overdue, row_of, seals, status, tell, way,
)

ROUTE = (5, 2, 9, 7)


def told_of(*told, route=ROUTE):
    """The calls that tell one journey and these news of it."""
    return [journey(route=route)] + [tell(*told[k:k + 10]) for k in range(0, len(told), 10)]


def way_of(*told, route=ROUTE):
    return row_of(last(*told_of(*told, route=route), way(1)), 4)


def faults_of(*told, route=ROUTE):
    return row_of(last(*told_of(*told, route=route), faults(1)), 2)


def missing_of(*told, route=ROUTE):
    return [office for (office,) in row_of(last(*told_of(*told, route=route), missing(1)), 1)]


def seals_of(*told, route=ROUTE):
    return row_of(last(*told_of(*told, route=route), seals(1)), 3)


def whole(first=10, second=20, third=30, fourth=40, fifth=50):
    """News of each stage of the route, numbered against their order."""
    return [
        news(90, office=5, told=0, minute=first, left=1), news(80, office=2, told=1, minute=second, found=1, left=2),
        news(70, office=9, told=1, minute=third, found=2, left=3), news(60, office=7, told=2, minute=fourth, found=3),
        news(50, office=7, told=3, minute=fifth),
    ]


class WayTest(DeskTest):
    def test_nothing_told_nothing_on_the_way(self):
        self.assertEqual(ask(journey(), way(1), faults(1), missing(1), seals(1))[1:], [[0, 0]] * 4)

    def test_a_whole_way_in_the_order_of_its_stages(self):
        expected = [(90, 5, 0, 10), (80, 2, 1, 20), (70, 9, 1, 30), (60, 7, 2, 40), (50, 7, 3, 50)]
        self.assertEqual(way_of(*whole()), expected)
        self.assertEqual(way_of(*reversed(whole())), expected)
        self.assertEqual(faults_of(*whole()), [])
        self.assertEqual(last(*told_of(*whole()), way(1))[:2], [0, 20])

    def test_like_minutes_stay_from_the_first_to_the_last(self):
        for minute in (0, 7, LAST):
            told = whole(minute, minute, minute, minute, minute)
            self.assertEqual([one[0] for one in way_of(*told)], [90, 80, 70, 60, 50])

    def test_a_route_of_two_offices(self):
        told = [news(1, office=3, told=0, minute=1), news(2, office=4, told=2, minute=2), news(3, office=4, told=3, minute=3)]
        self.assertEqual(way_of(*told, route=(3, 4)), [(1, 3, 0, 1), (2, 4, 2, 2), (3, 4, 3, 3)])
        self.assertEqual(way_of(*[news(1, office=3, told=1), news(2, office=4, told=1)], route=(3, 4)), [])

    def test_what_may_be_told_at_each_office(self):
        allowed = {(5, 0), (2, 1), (9, 1), (7, 2), (7, 3)}
        for office in range(1, 10):
            for what in range(4):
                row = news(33, office=office, told=what, minute=8)
                on_way = (office, what) in allowed
                self.assertEqual(way_of(row), [(33, office, what, 8)] if on_way else [], (office, what))
                self.assertEqual(faults_of(row), [] if on_way else [(33, 1)], (office, what))

    def test_news_taken_back_are_neither_on_the_way_nor_faults(self):
        for office in range(1, 10):
            self.assertEqual(way_of(news(1, office=office, told=4)), [])
            self.assertEqual(faults_of(news(1, office=office, told=4)), [])

    def test_of_one_stage_the_least_minute_goes_first_then_the_least_number(self):
        for what, office in ((0, 5), (1, 2), (1, 9), (2, 7), (3, 7)):
            told = [
                news(4, office=office, told=what, minute=12), news(9, office=office, told=what, minute=11),
                news(8, office=office, told=what, minute=11), news(2, office=office, told=what, minute=13),
            ]
            self.assertEqual(way_of(*told), [(8, office, what, 11)])
            self.assertEqual(faults_of(*told), [(2, 2), (4, 2), (9, 2)])
            self.assertEqual(way_of(*reversed(told)), [(8, office, what, 11)])

    def test_arriving_and_clearing_are_two_stages(self):
        told = [news(1, office=7, told=3, minute=5), news(2, office=7, told=2, minute=5)]
        self.assertEqual(way_of(*told), [(2, 7, 2, 5), (1, 7, 3, 5)])

    def test_cleared_without_arriving(self):
        self.assertEqual(way_of(news(1, office=5, minute=3), news(2, office=7, told=3, minute=8)),
                         [(1, 5, 0, 3), (2, 7, 3, 8)])

    def test_one_that_is_too_early_is_left_out(self):
        told = whole(third=19)
        self.assertEqual([one[0] for one in way_of(*told)], [90, 80, 60, 50])
        self.assertEqual(faults_of(*told), [(70, 3)])
        self.assertEqual(faults_of(*whole(third=20)), [])

    def test_one_leaves_out_many(self):
        told = whole(first=LAST)
        self.assertEqual(way_of(*told), [(90, 5, 0, LAST)])
        self.assertEqual(faults_of(*told), [(50, 3), (60, 3), (70, 3), (80, 3)])
        told = whole(second=45)
        self.assertEqual([one[0] for one in way_of(*told)], [90, 80, 50])
        self.assertEqual(faults_of(*told), [(60, 3), (70, 3)])

    def test_one_left_out_leaves_out_none(self):
        told = whole(first=25, second=20, third=25)
        self.assertEqual([one[0] for one in way_of(*told)], [90, 70, 60, 50])
        told = whole(first=10, second=30, third=20, fourth=25, fifth=30)
        self.assertEqual([one[0] for one in way_of(*told)], [90, 80, 50])

    def test_arrived_behind_cleared_leaves_out_the_clearing(self):
        told = whole(fifth=39)
        self.assertEqual([one[0] for one in way_of(*told)], [90, 80, 70, 60])
        self.assertEqual(faults_of(*told), [(50, 3)])

    def test_a_stage_whose_first_is_too_early_has_no_other(self):
        told = whole() + [news(75, office=9, told=1, minute=15)]
        self.assertEqual([one[0] for one in way_of(*told)], [90, 80, 60, 50])
        self.assertEqual(faults_of(*told), [(70, 2), (75, 3)])

    def test_a_way_that_begins_behind_the_first_office(self):
        self.assertEqual(way_of(*whole()[2:]), [(70, 9, 1, 30), (60, 7, 2, 40), (50, 7, 3, 50)])
        self.assertEqual(way_of(*whole()[4:]), [(50, 7, 3, 50)])

    def test_all_faults_together_by_numbers(self):
        told = [
            news(30, office=5, told=0, minute=10), news(7, office=5, told=0, minute=11), news(6, office=5, told=1, minute=12),
            news(40, office=1, told=1, minute=12), news(5, office=2, told=1, minute=9), news(999, office=2, told=1, minute=12),
            news(8, office=7, told=4, minute=12), news(1, office=7, told=0, minute=12),
        ]
        self.assertEqual(way_of(*told), [(30, 5, 0, 10)])
        self.assertEqual(faults_of(*told), [(1, 1), (5, 3), (6, 1), (7, 2), (40, 1), (999, 2)])

    def test_each_journey_has_its_own_news(self):
        calls = [journey(route=(1, 2)), journey(route=(2, 1)), journey(route=(1, 3)), tell(
            news(1, j=1, office=1, minute=5), news(2, j=2, office=1, told=2, minute=6), news(3, j=2, office=2, told=2, minute=6))]
        self.assertEqual(
            ask(*calls, way(1), way(2), way(3), faults(1), faults(2), faults(3))[4:],
            [[0, 4, 1, 1, 0, 5], [0, 4, 2, 1, 2, 6], [0, 0], [0, 0], [0, 2, 3, 1], [0, 0]])


class MissingTest(DeskTest):
    def test_none_if_all_told(self):
        self.assertEqual(missing_of(*whole()), [])

    def test_offices_before_that_of_the_last_news(self):
        first, second, third, fourth, fifth = whole()
        for told, expected in (
            ([], []), ([first], []), ([second], [5]), ([third], [5, 2]), ([fourth], [5, 2, 9]), ([fifth], [5, 2, 9]),
            ([fourth, fifth], [5, 2, 9]), ([first, third], [2]), ([first, fourth], [2, 9]), ([first, second], []),
            ([second, fourth], [5, 9]), ([first, third, fifth], [2]), ([first, second, third], []),
        ):
            self.assertEqual(missing_of(*told), expected, told)

    def test_what_is_left_out_is_missing(self):
        self.assertEqual(missing_of(*whole(third=19)), [9])
        self.assertEqual(missing_of(*whole(first=LAST)), [])
        self.assertEqual(missing_of(*whole(second=45)), [9])

    def test_news_that_cannot_be_on_the_way_do_not_help(self):
        self.assertEqual(missing_of(news(1, office=2, told=0, minute=1), news(2, office=9, told=1, minute=1)), [5, 2])
        self.assertEqual(missing_of(news(1, office=7, told=1, minute=1)), [])

    def test_the_order_is_the_routes(self):
        self.assertEqual(missing_of(news(1, office=1, told=2, minute=4), route=(9, 4, 8, 2, 6, 1)), [9, 4, 8, 2, 6])


class SealsTest(DeskTest):
    def pair(self, office, told, found, route=ROUTE):
        return seals_of(news(1, office=5, minute=1, left=4418), news(2, office=office, told=told, minute=2, found=found), route=route)

    def test_the_same_seal(self):
        self.assertEqual(seals_of(*whole()), [(5, 2, 0), (2, 9, 0), (9, 7, 0)])
        self.assertEqual(self.pair(2, 1, 4418), [(5, 2, 0)])
        self.assertEqual(self.pair(9, 1, 4418), [(5, 9, 0)])
        self.assertEqual(self.pair(7, 2, 4418), [(5, 7, 0)])

    def test_broken_for_certain_and_perhaps(self):
        self.assertEqual(self.pair(2, 1, 4417), [(5, 2, 1)])
        self.assertEqual(self.pair(9, 1, 4419), [(5, 9, 2)])
        self.assertEqual(self.pair(7, 2, 0), [(5, 7, 2)])
        self.assertEqual(self.pair(7, 2, 9999, route=(5, 7)), [(5, 7, 1)])

    def test_what_is_found_by_the_second_is_beside_what_is_left_by_the_first(self):
        told = [news(1, office=5, minute=1, found=3, left=4), news(2, office=2, told=1, minute=2, found=4, left=3),
                news(3, office=9, told=1, minute=3, found=4, left=4)]
        self.assertEqual(seals_of(*told), [(5, 2, 0), (2, 9, 1)])

    def test_clearing_tells_of_no_seal(self):
        self.assertEqual(seals_of(*whole()[3:]), [])
        self.assertEqual(seals_of(news(1, office=5, minute=1, left=1), news(2, office=7, told=3, minute=2, found=1)), [])
        told = [news(1, office=5, minute=1, left=1), news(3, office=7, told=2, minute=2, found=1, left=1),
                news(2, office=7, told=3, minute=2, found=1)]
        self.assertEqual(seals_of(*told), [(5, 7, 0)])

    def test_one_news_alone_has_no_other(self):
        self.assertEqual(seals_of(whole()[1]), [])

    def test_an_office_that_is_left_out_lies_between_too(self):
        told = whole(third=19)
        self.assertEqual(seals_of(*told), [(5, 2, 0), (2, 7, 2)])

    def test_only_what_is_on_the_way_counts(self):
        told = whole() + [news(10, office=2, told=1, minute=21, found=99, left=99), news(11, office=1, told=1, minute=21)]
        self.assertEqual(seals_of(*told), [(5, 2, 0), (2, 9, 0), (9, 7, 0)])


class RefusalsTest(DeskTest):
    def test_numbers_of_journeys(self):
        sixteen = [journey()] * 16
        for make in (way, faults, missing, seals, lambda j: status(j, 5), lambda j: keeper(j, 5)):
            for j in (0, 100, -1, -FAR, FAR):
                self.check_refused([journey()], make(j), -1)
                self.check_refused([], make(j), -1)
            for j in (1, 2, 16, 99):
                self.check_refused([], make(j), -3)
            self.check_refused([journey()], make(2), -3)
            self.check_refused(sixteen, make(17), -3)
            self.check_refused(sixteen, make(99), -3)
            self.assertEqual(last(*sixteen, make(1))[0], 0)
            self.assertEqual(last(*sixteen, make(16))[0], 0)

    def test_minutes(self):
        for make in (lambda t: status(1, t), lambda t: keeper(1, t), overdue):
            self.check_range([journey(), tell(news(1))], make, 0, LAST)

    def test_which_refusal_comes_first(self):
        for make in (status, keeper):
            self.check_refused([journey()], make(2, -1), -1)
            self.check_refused([journey()], make(2, LAST + 1), -1)
            self.check_refused([journey()], make(2, 0), -3)


if __name__ == "__main__":
    unittest.main()
