"""Calls 4 status, 5 keeper and 13 overdue, and the second promise."""

import random
import unittest

from tests.helper import DeskTest, LAST, ask, journey, keeper, last, news, overdue, status, tell

ROUTE = (5, 2, 9, 7)

LEAVES = news(1, office=5, told=0, minute=10)
PASSES = news(2, office=2, told=1, minute=20)
PASSES_NEXT = news(3, office=9, told=1, minute=30)
ARRIVES = news(4, office=7, told=2, minute=40)
IS_CLEARED = news(5, office=7, told=3, minute=50)


def at_each(told, minutes, route=ROUTE, limit=1000):
    """(status, keeper) at each of the minutes."""
    calls = [journey(route=route, limit=limit), tell(*told)]
    found = ask(*calls, *[make(1, t) for t in minutes for make in (status, keeper)])[2:]
    return [(found[k], found[k + 1]) for k in range(0, len(found), 2)]


def at(told, minute, **more):
    state, held = at_each(told, [minute], **more)[0]
    return (state[1], held[1:])


class KeeperTest(DeskTest):
    def test_before_at_and_behind_each_minute_of_a_whole_way(self):
        told = [LEAVES, PASSES, PASSES_NEXT, ARRIVES, IS_CLEARED]
        for minutes, state, held in (
            ((0, 9), 0, [0, 5, 0]), ((10, 11, 19), 1, [1, 5, 2]), ((20, 21, 29), 1, [1, 2, 9]),
            ((30, 31, 39), 1, [1, 9, 7]), ((40, 41, 49), 2, [0, 7, 0]), ((50, 51, LAST), 3, [2, 0, 0]),
        ):
            for answer in at_each(told, minutes):
                self.assertEqual(answer, ([0, state, 0], [0] + held), minutes)

    def test_nothing_on_the_way(self):
        for told in ([], [news(1, office=5, told=4)], [news(1, office=7, told=0)], [news(1, office=1, told=1)]):
            for minute in (0, 5, LAST):
                self.assertEqual(at(told, minute), (0, [0, 5, 0]))

    def test_the_carrier_goes_to_the_next_news_office(self):
        self.assertEqual(at([LEAVES, PASSES_NEXT], 15), (1, [1, 5, 9]))
        self.assertEqual(at([LEAVES, ARRIVES], 15), (1, [1, 5, 7]))
        self.assertEqual(at([LEAVES, IS_CLEARED], 15), (1, [1, 5, 7]))
        self.assertEqual(at([PASSES, PASSES_NEXT], 25), (1, [1, 2, 9]))

    def test_the_carrier_goes_to_the_last_office_if_there_is_no_next(self):
        self.assertEqual(at([LEAVES], 10), (1, [1, 5, 7]))
        self.assertEqual(at([LEAVES, PASSES], LAST), (1, [1, 2, 7]))
        self.assertEqual(at([PASSES_NEXT], 30), (1, [1, 9, 7]))

    def test_a_way_that_begins_behind_the_first_office(self):
        self.assertEqual(at([PASSES, ARRIVES], 19), (0, [0, 5, 0]))
        self.assertEqual(at([PASSES, ARRIVES], 20), (1, [1, 2, 7]))
        self.assertEqual(at([ARRIVES], 39), (0, [0, 5, 0]))
        self.assertEqual(at([ARRIVES], 40), (2, [0, 7, 0]))
        self.assertEqual(at([IS_CLEARED], 49), (0, [0, 5, 0]))
        self.assertEqual(at([IS_CLEARED], 50), (3, [2, 0, 0]))

    def test_cleared_without_arriving(self):
        for minute, expected in (
            (9, (0, [0, 5, 0])), (10, (1, [1, 5, 7])), (49, (1, [1, 5, 7])), (50, (3, [2, 0, 0])), (51, (3, [2, 0, 0])),
        ):
            self.assertEqual(at([LEAVES, IS_CLEARED], minute), expected)

    def test_several_news_of_one_minute(self):
        told = [news(9, office=5, told=0, minute=10), news(8, office=2, told=1, minute=10), news(7, office=9, told=1, minute=10)]
        for minute, expected in ((9, (0, [0, 5, 0])), (10, (1, [1, 9, 7])), (11, (1, [1, 9, 7]))):
            self.assertEqual(at(told, minute), expected)
        told.append(news(6, office=7, told=2, minute=10))
        self.assertEqual(at(told, 9), (0, [0, 5, 0]))
        self.assertEqual(at(told, 10), (2, [0, 7, 0]))
        told.append(news(5, office=7, told=3, minute=10))
        self.assertEqual(at(told, 9), (0, [0, 5, 0]))
        self.assertEqual(at(told, 10), (3, [2, 0, 0]))

    def test_the_first_and_the_last_minute(self):
        told = [news(1, office=5, minute=0), news(2, office=7, told=2, minute=LAST)]
        self.assertEqual(at(told, 0), (1, [1, 5, 7]))
        self.assertEqual(at(told, LAST - 1), (1, [1, 5, 7]))
        self.assertEqual(at(told, LAST), (2, [0, 7, 0]))

    def test_what_is_left_out_keeps_nothing(self):
        told = [news(1, office=5, minute=30), PASSES, ARRIVES]
        self.assertEqual(at(told, 29), (0, [0, 5, 0]))
        self.assertEqual(at(told, 30), (1, [1, 5, 7]))


class SecondPromiseTest(DeskTest):
    def check_one_keeper(self, state, held, route):
        kind, begin, end = held[1:]
        self.assertEqual((len(state), len(held), state[0], held[0]), (3, 4, 0, 0))
        if state[1] == 0:
            self.assertEqual((kind, begin, end), (0, route[0], 0))
        elif state[1] == 1:
            self.assertEqual(kind, 1)
            self.assertLess(route.index(begin), route.index(end))
        elif state[1] == 2:
            self.assertEqual((kind, begin, end), (0, route[-1], 0))
        else:
            self.assertEqual((state[1], kind, begin, end), (3, 2, 0, 0))

    def test_just_one_keeper_at_each_minute(self):
        chance = random.Random(2)
        for again in range(300):
            route = chance.sample(range(1, 7), chance.randint(2, 5))
            told = [
                news(k, office=chance.choice(route), told=chance.randint(0, 4), minute=chance.randint(0, 12))
                for k in range(1, 11)
            ]
            before = 0
            for state, held in at_each(told, range(14), route=route, limit=5):
                self.check_one_keeper(state, held, route)
                # It goes on from keeper to keeper, never back.
                self.assertGreaterEqual(state[1], before)
                before = state[1]


class OverdueTest(DeskTest):
    def late(self, told, minute, limit=30):
        found = ask(journey(route=ROUTE, limit=limit), tell(*told), status(1, minute), overdue(minute))[2:]
        self.assertEqual(found[1], [0, 1, 1] if found[0][2] else [0, 0])
        return found[0][2] == 1

    def test_one_minute_behind_the_limit_not_at_it(self):
        for minute, late in ((0, False), (9, False), (10, False), (39, False), (40, False), (41, True), (LAST, True)):
            self.assertEqual(self.late([LEAVES], minute), late, minute)

    def test_arrived_at_the_limit_and_one_behind_it(self):
        for arrives, late in ((39, False), (40, False), (41, True)):
            told = [LEAVES, news(4, office=7, told=2, minute=arrives)]
            self.assertEqual(self.late(told, 40), False)
            self.assertEqual(self.late(told, 41), late)
            self.assertEqual(self.late(told, LAST), late)

    def test_cleared_counts_as_arrived_if_nothing_else_does(self):
        for cleared, late in ((40, False), (41, True)):
            told = [LEAVES, news(4, office=7, told=3, minute=cleared)]
            self.assertEqual(self.late(told, 41), late)
        told = [LEAVES, news(4, office=7, told=2, minute=40), news(5, office=7, told=3, minute=41)]
        self.assertEqual(self.late(told, 50), False)

    def test_arrived_too_late_stays_overdue(self):
        told = [LEAVES, news(4, office=7, told=2, minute=41), news(5, office=7, told=3, minute=42)]
        for minute in (41, 42, 43, LAST):
            self.assertEqual(self.late(told, minute), True)

    def test_passing_is_not_arriving(self):
        self.assertEqual(self.late([LEAVES, PASSES, PASSES_NEXT], 41), True)

    def test_left_is_the_ways_first_news_whatever_it_tells(self):
        self.assertEqual(self.late([PASSES], 50), False)
        self.assertEqual(self.late([PASSES], 51), True)
        self.assertEqual(self.late([ARRIVES], LAST), False)
        self.assertEqual(self.late([IS_CLEARED], LAST), False)

    def test_what_never_left_is_not_overdue(self):
        for told in ([], [news(1, office=5, told=4)], [news(1, office=5, told=1)]):
            self.assertEqual(self.late(told, LAST), False)

    def test_an_arrival_that_is_left_out_does_not_help(self):
        told = [LEAVES, PASSES, news(4, office=7, told=2, minute=19)]
        self.assertEqual(self.late(told, 41), True)

    def test_the_least_and_the_greatest_limit(self):
        self.assertEqual(self.late([LEAVES], 11, limit=1), False)
        self.assertEqual(self.late([LEAVES], 12, limit=1), True)
        self.assertEqual(self.late([LEAVES], 1000010, limit=1000000), False)
        self.assertEqual(self.late([LEAVES], 1000011, limit=1000000), True)

    def test_all_journeys_that_are_overdue_in_their_order(self):
        calls = [journey(limit=5), journey(p=2, limit=4), journey(limit=9), journey(limit=1)]
        calls.append(tell(news(1, j=3, minute=0), news(2, j=2, minute=1), news(3, j=1, minute=0)))
        for minute, late in ((5, []), (6, [1, 2]), (9, [1, 2]), (10, [1, 2, 3])):
            self.assertEqual(last(*calls, overdue(minute)), [0, len(late)] + late)

    def test_no_journey_at_all(self):
        self.assertEqual(last(overdue(5)), [0, 0])


if __name__ == "__main__":
    unittest.main()
