"""Calls 18 broken, 19 journeys, 24 at, 25 road and 27 counts, beside those that tell of one journey."""

import random
import unittest

from tests.helper import (
    DeskTest, FAR, LAST, ask, at, broken, counts, form_of, guarantee, journey, journeys, keeper, known, last, letter, news,
    printed, reserved, road, row_of, seals, status, tell, was,
)

ROUTE = (5, 2, 9, 7)


def route_news(number, j, place, minute, route=ROUTE, **more):
    """A news of the place's office on the route, telling what may be told there."""
    told = 0 if place == 0 else 2 if place == len(route) - 1 else 1
    return news(number, 1, j, route[place], told, minute, **more)


class BrokenTest(DeskTest):
    def broken_of(self, *calls):
        return row_of(last(*calls, broken()), 4)

    def test_none(self):
        self.assertEqual(last(broken()), [0, 0])
        self.assertEqual(last(journey(), broken()), [0, 0])
        told = tell(route_news(1, 1, 0, 5, left=4), route_news(2, 1, 1, 6, found=4))
        self.assertEqual(self.broken_of(journey(route=ROUTE), told), [])

    def test_for_certain_and_perhaps_journey_by_journey(self):
        calls = [journey(route=ROUTE), journey(p=2, route=ROUTE), journey(route=(3, 4)), journey(route=ROUTE), tell(
            route_news(1, 4, 0, 5, left=1), route_news(2, 4, 2, 6, found=2, left=3), route_news(3, 4, 3, 7, found=4),
            route_news(4, 1, 0, 5, left=1), route_news(5, 1, 1, 6, found=1, left=2), route_news(6, 1, 2, 7, found=1),
            route_news(7, 3, 0, 5, (3, 4), left=9999), route_news(8, 3, 1, 5, (3, 4)),
        )]
        self.assertEqual(self.broken_of(*calls), [(1, 2, 9, 1), (3, 3, 4, 1), (4, 5, 9, 2), (4, 9, 7, 1)])

    def test_clearing_tells_of_no_seal(self):
        told = tell(route_news(1, 1, 0, 5, left=4), news(2, office=7, told=3, minute=9, found=3))
        self.assertEqual(self.broken_of(journey(route=ROUTE), told), [])

    def test_a_seal_put_right(self):
        calls = [journey(route=ROUTE), tell(route_news(1, 1, 0, 5, left=4), route_news(2, 1, 1, 6, found=3))]
        self.assertEqual(self.broken_of(*calls), [(1, 5, 2, 1)])
        right = news(2, 2, 1, 2, 1, 6, 4, 0)
        self.assertEqual(self.broken_of(*calls, letter(form_of(right))), [])


class JourneysTest(DeskTest):
    def test_none(self):
        self.assertEqual(last(journeys()), [0, 0])

    def test_as_they_were_told(self):
        calls = [journey(6, 0, 1, 1, (9, 1)), journey(1, LAST, 100, 1000000, (1, 2, 3, 4, 5, 6)), journey(3, 101, 33, 60, (4, 9, 2))]
        self.assertEqual(
            last(*calls, journeys()),
            [0, 3, 6, 0, 1, 1, 2, 9, 1, 1, LAST, 100, 1000000, 6, 1, 2, 3, 4, 5, 6, 3, 101, 33, 60, 3, 4, 9, 2])

    def test_refused_ones_are_not_among_them(self):
        calls = [journey(p=0), journey(route=(1, 1)), journey(money=5, route=(1, 2)), journey(route=(1,))]
        self.assertEqual(last(*calls, journeys()), [0, 1, 1, 5, 100, 60, 2, 1, 2])

    def test_sixteen(self):
        calls = [journey(1 + k % 6, k, 1 + k, 100 + k, (1 + k % 4, 6)) for k in range(16)]
        expected = [number for k in range(16) for number in (1 + k % 6, k, 1 + k, 100 + k, 2, 1 + k % 4, 6)]
        self.assertEqual(last(*calls, journey(), journeys()), [0, 16] + expected)

    def test_news_do_not_change_them(self):
        self.assertEqual(last(journey(), tell(news(1)), guarantee(1, 0, 5), journeys()), last(journey(), journeys()))


class AtRoadTest(DeskTest):
    # 1 goes from 5 by 2 to 7 and is cleared; 2 has left; 3 hasn't; 4 begins where the first ends.
    CALLS = [
        journey(route=ROUTE), journey(route=(5, 9)), journey(route=(5, 1)), journey(route=(7, 5)),
        tell(route_news(1, 1, 0, 10), route_news(2, 1, 1, 20), route_news(3, 1, 3, 30), news(4, 1, 1, 7, 3, 40),
             route_news(5, 2, 0, 20, (5, 9)), route_news(6, 4, 1, 25, (7, 5))),
    ]

    def held(self, o, t):
        return [j for (j,) in row_of(last(*self.CALLS, at(o, t)), 1)]

    def carried(self, t):
        return row_of(last(*self.CALLS, road(t)), 3)

    def test_with_an_office(self):
        for minutes, by_office in (
            ((0, 9), {5: [1, 2, 3], 7: [4]}), ((10, 19), {5: [2, 3], 7: [4]}), ((20, 24), {5: [3], 7: [4]}),
            ((25, 29), {5: [3, 4]}), ((30, 39), {5: [3, 4], 7: [1]}), ((40, LAST), {5: [3, 4]}),
        ):
            for t in minutes:
                for o in range(1, 10):
                    self.assertEqual(self.held(o, t), by_office.get(o, []), (o, t))

    def test_with_the_carrier(self):
        for minutes, rows in (
            ((0, 9), []), ((10, 19), [(1, 5, 2)]), ((20, 29), [(1, 2, 7), (2, 5, 9)]), ((30, LAST), [(2, 5, 9)]),
        ):
            for t in minutes:
                self.assertEqual(self.carried(t), rows, t)

    def test_an_office_passed_never_holds_a_journey(self):
        for t in (19, 20, 21):
            self.assertEqual(self.held(2, t), [])

    def test_no_journey_at_all(self):
        self.assertEqual(last(at(1, 0)), [0, 0])
        self.assertEqual(last(road(0)), [0, 0])

    def test_sixteen(self):
        calls = [journey(route=(1 + k % 2, 9)) for k in range(16)]
        calls += [tell(*[news(k, 1, k, 1 + (k - 1) % 2, 0, 5) for k in range(1, 9)])]
        self.assertEqual(last(*calls, at(1, 4)), [0, 8, 1, 3, 5, 7, 9, 11, 13, 15])
        self.assertEqual(last(*calls, at(1, 5)), [0, 4, 9, 11, 13, 15])
        self.assertEqual(row_of(last(*calls, road(5)), 3), [(k, 1 + (k - 1) % 2, 9) for k in range(1, 9)])

    def test_ranges(self):
        self.check_range(self.CALLS, lambda o: at(o, 5), 1, 9)
        self.check_range(self.CALLS, lambda t: at(5, t), 0, LAST)
        self.check_range(self.CALLS, road, 0, LAST)
        self.check_refused(self.CALLS, at(10, -1), -1)
        self.check_refused([], at(0, FAR), -1)


class CountsTest(DeskTest):
    def test_at_the_beginning(self):
        self.assertEqual(last(counts()), [0, 0, 0, 0, 0, 0])

    def test_each_of_them(self):
        calls = [
            (journey(), [1, 0, 0, 0, 0]), (journey(p=0), [1, 0, 0, 0, 0]), (guarantee(1, 5, 5), [1, 1, 0, 0, 0]),
            (guarantee(1, 5, 6), [1, 1, 0, 0, 0]), (guarantee(2, 5, 6), [1, 2, 0, 0, 0]), (tell(), [1, 2, 1, 0, 0]),
            (tell(news(1), news(2, told=4)), [1, 2, 2, 2, 1]), (letter(form_of(news(3))), [1, 2, 3, 3, 2]),
            (letter("x"), [1, 2, 3, 3, 2]), (tell(news(4, j=2)), [1, 2, 3, 3, 2]),
            (letter(form_of(news(1, 2, told=4), news(2, 2))), [1, 2, 4, 3, 2]), (letter(""), [1, 2, 5, 3, 2]),
            (tell(news(1, 2, told=4)), [1, 2, 6, 3, 2]), (tell(news(9, office=9, told=1)), [1, 2, 7, 4, 3]),
        ]
        done = []
        for call, expected in calls:
            done.append(call)
            self.assertEqual(last(*done, counts()), [0] + expected)

    def test_the_greatest(self):
        calls = [journey()] * 16 + [guarantee(1, k, k) for k in range(20)]
        calls += [tell(*[news(10 * k + i, told=4 * (i % 2)) for i in range(1, 11)]) for k in range(8)]
        self.assertEqual(last(*calls, journey(), guarantee(1, 30, 5), tell(news(81)), counts()), [0, 16, 20, 8, 80, 40])
        self.assertEqual(last(*[tell(), letter("")] * 20, letter(""), counts()), [0, 0, 0, 40, 0, 0])


class AlikeTest(DeskTest):
    """What is told of all journeys is what is told of each."""

    def mixed(self, chance):
        routes = [chance.sample(range(1, 6), chance.randint(2, 4)) for j in range(4)]
        calls = [journey(p=chance.randint(1, 2), money=chance.randint(0, 9), route=route) for route in routes]
        for k in range(4):
            rows = []
            for again in range(chance.randint(0, 7)):
                j = chance.randint(1, 4)
                place = chance.randrange(len(routes[j - 1]))
                row = route_news(chance.randint(1, 30), j, place, min(9, 2 * place + chance.randint(0, 4)), routes[j - 1],
                                 found=chance.randint(0, 1), left=chance.randint(0, 1))
                if chance.random() < 0.3:
                    row[4] = chance.randint(2, 4)
                rows.append(row)
            calls.append(tell(*rows) if chance.random() < 0.5 else letter(form_of(*rows)))
        return calls

    def test_broken_and_seals(self):
        chance = random.Random(18)
        for again in range(150):
            calls = self.mixed(chance)
            expected = []
            for j in range(1, 5):
                expected += [(j, *seal) for seal in row_of(last(*calls, seals(j)), 3) if seal[2]]
            self.assertEqual(row_of(last(*calls, broken()), 4), expected)

    def test_the_second_promise_by_keeper_was_at_and_road(self):
        chance = random.Random(24)
        for again in range(60):
            calls = self.mixed(chance)
            for t in range(11):
                found = ask(*calls, *[keeper(j, t) for j in range(1, 5)], *[at(o, t) for o in range(1, 10)], road(t),
                            *[was(4, j, t) for j in range(1, 5)], *[status(j, t) for j in range(1, 5)])[8:]
                held, by_office, carried, then, states = found[:4], found[4:13], found[13], found[14:18], found[18:]
                self.assertEqual(then, held)
                self.assertEqual(row_of(carried, 3), [(j, one[2], one[3]) for j, one in enumerate(held, 1) if one[1] == 1])
                for o, answer in enumerate(by_office, 1):
                    self.assertEqual(answer[2:], [j for j, one in enumerate(held, 1) if one[1:3] == [0, o]])
                # Each is told just once: by one office, by the road, or as with nobody any more.
                told = [j for answer in by_office for j in answer[2:]] + [one[0] for one in row_of(carried, 3)]
                told += [j for j, state in enumerate(states, 1) if state[1] == 3]
                self.assertEqual(sorted(told), [1, 2, 3, 4])

    def test_the_second_promise_as_known_then(self):
        chance = random.Random(17)
        for again in range(40):
            calls = self.mixed(chance)
            for n in range(5):
                for t in range(0, 11, 2):
                    for j, answer in enumerate(ask(*calls, *[was(n, j, t) for j in range(1, 5)])[8:], 1):
                        self.assertEqual(answer, last(*calls[:4 + n], keeper(j, t)))

    def test_counts_beside_the_others(self):
        chance = random.Random(27)
        for again in range(60):
            calls = self.mixed(chance)
            found = ask(*calls, counts(), journeys(), known(), printed())[8:]
            rows = [found[2][k:k + 8] for k in range(2, len(found[2]), 8)]
            self.assertEqual(found[0], [0, found[1][1], 0, 4, found[2][1], len([row for row in rows if row[4] != 4])])
            self.assertEqual("".join(chr(byte) for byte in found[3][2:]), form_of(*rows))

    def test_journeys_told_back_are_the_same_journeys(self):
        chance = random.Random(19)
        for again in range(40):
            calls = self.mixed(chance)
            answer = last(*calls, journeys())
            place, back = 2, []
            while place < len(answer):
                size = answer[place + 4]
                back.append([0, *answer[place:place + 5 + size]])
                place += 5 + size
            self.assertEqual(back, calls[:4])
            self.assertEqual(last(*back, *calls[4:], reserved(1, 5)), last(*calls, reserved(1, 5)))


if __name__ == "__main__":
    unittest.main()
