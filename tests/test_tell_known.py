"""Calls 2 tell and 3 known, and the first promise."""

import itertools
import random
import unittest

from tests.helper import DeskTest, FAR, LAST, ask, close_news, journey, known, last, news, tell, tell_row, way

ROW = [7, 3, 1, 2, 1, 50, 60, 70]
# Where a row's numbers stand, from which number to which each may go.
PLACES = ((0, 1, 999), (1, 1, 9), (3, 1, 9), (4, 0, 4), (5, 0, LAST), (6, 0, 9999), (7, 0, 9999))


def changed(place, number):
    row = list(ROW)
    row[place] = number
    return row


def known_rows(*calls):
    answer = last(*calls, known())
    rows = [answer[k:k + 8] for k in range(2, len(answer), 8)]
    if answer[:2] != [0, len(rows)]:
        raise ValueError(f"known doesn't tell how many: {answer}")
    return rows


class TellTest(DeskTest):
    def test_nothing_is_known_at_the_beginning(self):
        self.assertEqual(last(known()), [0, 0])

    def test_a_row_comes_back_as_it_was_told_by_numbers(self):
        first = news(900, 2, 1, 3, 1, 12, 13, 14)
        second = news(20, 1, 2, 9, 4, LAST, 9999, 0)
        self.assertEqual(
            ask(journey(), journey(), tell(first, second), known()),
            [[0, 1, 1000], [0, 2, 1000], [0, 2, 2], [0, 2] + second + first])

    def test_news_may_be_of_offices_beside_the_route_and_tell_anything(self):
        for told in range(5):
            for office in range(1, 10):
                row = news(5, office=office, told=told)
                self.assertEqual(known_rows(journey(route=(1, 2, 3)), tell(row)), [row])

    def test_no_news_is_a_tell_too(self):
        self.assertEqual(ask(tell(), known()), [[0, 0, 0], [0, 0]])
        self.assertEqual(last(journey(), tell(ROW), tell()), [0, 0, 1])

    def test_counts_those_known_then_that_were_not_known_so(self):
        one = news(1, 2, minute=10)
        calls = [
            (tell(one), [0, 1, 1]),
            (tell(one), [0, 0, 1]),
            (tell(news(1, 1, minute=90)), [0, 0, 1]),
            (tell(news(1, 3, minute=5)), [0, 1, 1]),
            (tell(news(1, 3, minute=4)), [0, 0, 1]),
            (tell(news(1, 3, minute=6)), [0, 1, 1]),
            # Two of one number that both go above what's known are one.
            (tell(news(1, 4), news(1, 5), news(2, 1), news(2, 1)), [0, 2, 2]),
            (tell(news(1, 5), news(2, 1), news(3, 1)), [0, 1, 3]),
            (tell(news(1, 6, told=4), news(2, 2), news(3, 1, told=4)), [0, 3, 3]),
            (tell(news(1, 6, told=4), news(3, 1, told=4)), [0, 0, 3]),
        ]
        self.assertEqual(ask(journey(), *[call for call, answer in calls])[1:], [answer for call, answer in calls])

    def test_later_versions_are_known_whatever_else_they_tell(self):
        early = news(1, 1, 2, 9, 4, LAST, 9999, 9999)
        late = news(1, 2, 1, 1, 0, 0, 0, 0)
        for order in ((early, late), (late, early)):
            told = [tell(one) for one in order]
            self.assertEqual(known_rows(journey(), journey(), *told), [late])
            self.assertEqual(known_rows(journey(), journey(), tell(*order)), [late])

    def test_of_like_versions_the_greater_row_is_known(self):
        low = news(1, 3, 1, 2, 1, 50, 60, 70)
        for place, number in ((2, 2), (3, 3), (4, 2), (5, 51), (6, 61), (7, 71)):
            high = list(low)
            high[place] = number
            # What stands behind is compared only where all before is alike.
            for behind in range(place + 1, 8):
                high[behind] = 1 if behind == 3 else 0
            for order in ((low, high), (high, low)):
                self.assertEqual(known_rows(journey(), journey(), *[tell(one) for one in order]), [high])
                self.assertEqual(known_rows(journey(), journey(), tell(*order)), [high])

    def test_taken_back_and_put_right_again(self):
        calls = [journey()]
        for row, on_way in (
            (news(1, 1, minute=5), True), (news(1, 2, minute=5, told=4), False), (news(1, 3, minute=6), True),
            (news(1, 4, told=4), False), (news(1, 9, minute=1), True),
        ):
            calls.append(tell(row))
            self.assertEqual(known_rows(*calls), [row])
            self.assertEqual(last(*calls, way(1)), [0, 4, 1, 1, 0, row[5]] if on_way else [0, 0])
        calls.append(tell(news(1, 4, told=4)))
        self.assertEqual(last(*calls, way(1)), [0, 4, 1, 1, 0, 1])

    def test_a_later_version_may_be_of_another_journey(self):
        calls = [journey(), journey(), tell(news(1, 1, 1, minute=5))]
        self.assertEqual(ask(*calls, way(1), way(2))[3:], [[0, 4, 1, 1, 0, 5], [0, 0]])
        calls.append(tell(news(1, 2, 2, minute=6)))
        self.assertEqual(ask(*calls, way(1), way(2))[4:], [[0, 0], [0, 4, 1, 1, 0, 6]])

    def test_ranges(self):
        for place, low, high in PLACES:
            self.check_range([journey()], lambda number: tell(changed(place, number)), low, high)
            ten = [news(100 + k) for k in range(9)]
            self.check_range([journey()], lambda number: tell(*ten, changed(place, number)), low, high)
            self.check_range([journey()], lambda number: tell(changed(place, number), *ten), low, high)

    def test_the_range_of_a_journey(self):
        for j in (0, 100, -1, -FAR, FAR):
            self.check_refused([journey()], tell(changed(2, j)), -1)
        for j in (2, 3, 17, 99):
            self.check_refused([journey()], tell(changed(2, j)), -3)
        sixteen = [journey()] * 16
        self.assertEqual(last(*sixteen, tell(changed(2, 16))), [0, 1, 1])
        self.check_refused(sixteen, tell(changed(2, 17)), -3)

    def test_rows_that_are_not_as_told(self):
        for size in (1, 2, 7, 9, 15, 17, 79, 81):
            row = [number for k in range(11) for number in news(1 + k)][:size]
            self.check_refused([journey()], tell_row(row), -1)
        for size in (11, 12, 100, 150):
            self.check_refused([journey()], tell(*[news(1 + k) for k in range(size)]), -1)
        self.check_refused([journey()], tell_row([FAR] * 1200), -1)
        self.check_refused([journey()], tell_row([-FAR] * 8), -1)
        self.assertEqual(last(journey(), tell(*[news(1 + k) for k in range(10)])), [0, 10, 10])

    def test_one_wrong_news_refuses_all(self):
        good = news(1)
        for wrong, number in ((news(0), -1), (news(2, j=2), -3), (news(2, told=5), -1), (news(2, j=2, told=4), -3)):
            self.check_refused([journey()], tell(good, wrong), number)
            self.check_refused([journey()], tell(wrong, good), number)

    def test_an_earlier_version_of_no_journey_is_refused_too(self):
        self.check_refused([journey(), tell(news(1, 5))], tell(news(1, 1, j=2)), -3)

    def test_forty_tells_and_no_more(self):
        forty = [tell(news(1, minute=k)) for k in range(39)] + [tell()]
        self.assertEqual(ask(journey(), *forty)[-2:], [[0, 1, 1], [0, 0, 1]])
        self.check_refused([journey()] + forty, tell(news(2)), -6)
        self.check_refused([journey()] + forty, tell(news(1, minute=38)), -6)
        self.check_refused([journey()] + forty, tell(), -6)

    def test_refused_tells_are_not_counted(self):
        refused = [tell(news(0)), tell(news(1, j=2)), tell_row([1])] * 3
        self.assertEqual(ask(journey(), *refused, *[tell()] * 41)[10:], [[0, 0, 0]] * 40 + [[-6]])

    def test_eighty_known_and_no_more(self):
        eighty = [tell(*[news(10 * k + i, told=4 * (i % 2)) for i in range(1, 11)]) for k in range(8)]
        before = [journey()] + eighty
        self.assertEqual(ask(*before)[-1], [0, 10, 80])
        self.check_refused(before, tell(news(81)), -6)
        self.check_refused(before, tell(news(81, told=4)), -6)
        self.check_refused(before, tell(news(80, 9), news(999)), -6)
        self.assertEqual(last(*before, tell(news(81)), tell(news(80, 9), news(79, 9), news(79, 9))), [0, 2, 80])
        nearly = before[:-1] + [tell(*[news(70 + i) for i in range(1, 10)])]
        self.assertEqual(last(*nearly, tell(news(80), news(80, 2))), [0, 1, 80])
        self.check_refused(nearly, tell(news(80), news(81)), -6)

    def test_which_refusal_comes_first(self):
        full = [journey()] + [tell(*[news(10 * k + i) for i in range(1, 11)]) for k in range(8)]
        forty = [journey()] + [tell()] * 40
        for before in ([journey()], full, forty):
            self.check_refused(before, tell(news(900, j=2), news(901, told=5)), -1)
            self.check_refused(before, tell_row(news(900, j=2) + [1]), -1)
            self.check_refused(before, tell(*[news(900 + k, j=2) for k in range(11)]), -1)
            self.check_refused(before, tell(news(900), news(901, j=2)), -3)


class FirstPromiseTest(DeskTest):
    TOLD = [
        news(1, 1, minute=9), news(1, 2, minute=3), news(1, 2, 1, 2, 1, 3), news(2, 9, told=4), news(2, 8),
    ]

    def test_the_same_is_known_in_every_order(self):
        expected = [news(1, 2, 1, 2, 1, 3), news(2, 9, told=4)]
        for order in itertools.permutations(self.TOLD):
            self.assertEqual(known_rows(journey(), *[tell(one) for one in order]), expected)
            self.assertEqual(known_rows(journey(), tell(*order)), expected)
            self.assertEqual(known_rows(journey(), tell(*order[:2]), tell(*order[2:]), tell(*order)), expected)

    def test_the_same_is_known_of_many_news_in_many_orders(self):
        chance = random.Random(1)
        for again in range(60):
            told = close_news(chance, 24)
            best = {}
            for row in sorted(told):
                best[row[0]] = row
            for order in range(4):
                mixed = told + chance.sample(told, 6)
                chance.shuffle(mixed)
                calls = []
                while mixed:
                    size = chance.randint(1, 10)
                    calls.append(tell(*mixed[:size]))
                    mixed = mixed[size:]
                self.assertEqual(known_rows(journey(), journey(), *calls), [best[k] for k in sorted(best)])


if __name__ == "__main__":
    unittest.main()
