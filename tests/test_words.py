"""Many mixed lists of calls, beside the document's words written out the slow way."""

import random
import unittest

from tests.helper import DeskTest, FAR, LAST, ask

RANGES = {"p": (1, 6), "t": (0, LAST), "money": (0, LAST), "hundredths": (1, 100), "limit": (1, 1000000), "j": (1, 99)}
NAMES = {
    0: ("p", "money", "hundredths", "limit"), 1: ("p", "t", "money"), 2: (), 3: (), 4: ("j", "t"), 5: ("j", "t"),
    6: ("j",), 7: ("j",), 8: ("j",), 9: ("j",), 10: ("p", "t"), 11: ("p",), 12: ("p",), 13: ("t",),
}
NEWS_RANGES = ((1, 999), (1, 9), (1, 99), (1, 9), (0, 4), (0, LAST), (0, 9999), (0, 9999))
# All that the lists below tell happens before this minute.
END = 16


class Words:
    """Keeps every news ever told, and works all out from the beginning at each question."""

    def __init__(self):
        self.journeys = []
        self.guarantees = []
        self.told = []
        self.tells = 0

    def answer(self, number, numbers, row):
        for name, value in zip(NAMES[number], numbers):
            if not RANGES[name][0] <= value <= RANGES[name][1]:
                return [-1]
        if "j" in NAMES[number] and numbers[0] > len(self.journeys):
            return [-3]
        makers = (
            self.journey, self.guarantee, self.tell, self.all_known, self.status, self.keeper, self.way_row, self.faults,
            self.missing, self.seals, self.reserved, self.peak, self.shorts, self.overdue,
        )
        if number in (0, 2):
            return makers[number](*numbers, row)
        return makers[number](*numbers)

    def journey(self, p, money, hundredths, limit, route):
        if not 2 <= len(route) <= 6 or min(route) < 1 or max(route) > 9:
            return [-1]
        if len(set(route)) < len(route):
            return [-5]
        if len(self.journeys) == 16:
            return [-6]
        share = next(whole for whole in range(money + 1) if whole * 100 >= money * hundredths)
        self.journeys.append((p, share, limit, route))
        return [0, len(self.journeys), share]

    def guarantee(self, p, t, money):
        others = [one for one in self.guarantees if one[:2] != (p, t)]
        if len(others) == 20:
            return [-6]
        self.guarantees = others + [(p, t, money)]
        return [0, len(self.guarantees)]

    def known(self):
        found = {}
        for number in {one[0] for one in self.told}:
            found[number] = sorted((one for one in self.told if one[0] == number), key=lambda one: (one[1], one))[-1]
        return found

    def tell(self, row):
        if len(row) % 8 or len(row) > 80:
            return [-1]
        rows = [tuple(row[k:k + 8]) for k in range(0, len(row), 8)]
        for one in rows:
            if any(not low <= value <= high for value, (low, high) in zip(one, NEWS_RANGES)):
                return [-1]
        if any(one[2] > len(self.journeys) for one in rows):
            return [-3]
        before = self.known()
        if self.tells == 40 or len(set(before) | {one[0] for one in rows}) > 80:
            return [-6]
        self.tells += 1
        self.told.extend(rows)
        after = self.known()
        return [0, sum(before.get(number) != one for number, one in after.items()), len(after)]

    def all_known(self):
        found = self.known()
        return [0, len(found)] + [value for number in sorted(found) for value in found[number]]

    def sorted_out(self, j):
        """Of the journey: its way, and the fault of each other news in force."""
        route = self.journeys[j - 1][3]
        stages = {(route[0], 0): 0, (route[-1], 2): 2 * len(route) - 2, (route[-1], 3): 2 * len(route) - 1}
        for place, office in enumerate(route[1:-1], 1):
            stages[(office, 1)] = 2 * place
        way, fault = [], {}
        force = [one for one in self.known().values() if one[2] == j and one[4] != 4]
        for one in force:
            if (one[3], one[4]) not in stages:
                fault[one[0]] = 1
        for stage in range(2 * len(route)):
            here = sorted((one[5], one[0], one) for one in force if stages.get((one[3], one[4])) == stage)
            for k, (minute, number, one) in enumerate(here):
                if k > 0:
                    fault[number] = 2
                elif any(minute < other[5] for other in way):
                    fault[number] = 3
                else:
                    way.append(one)
        return way, fault

    def way(self, j):
        return self.sorted_out(j)[0]

    def way_row(self, j):
        found = [value for one in self.way(j) for value in (one[0], one[3], one[4], one[5])]
        return [0, len(found)] + found

    def faults(self, j):
        found = self.sorted_out(j)[1]
        return [0, 2 * len(found)] + [value for number in sorted(found) for value in (number, found[number])]

    def missing(self, j):
        offices = [one[3] for one in self.way(j)]
        found = []
        for office in self.journeys[j - 1][3] if offices else ():
            if office == offices[-1]:
                break
            if office not in offices:
                found.append(office)
        return [0, len(found)] + found

    def seals(self, j):
        route, way, found = self.journeys[j - 1][3], self.way(j), []
        for k in range(1, len(way)):
            if 3 in (way[k - 1][4], way[k][4]):
                continue
            between = route[route.index(way[k - 1][3]) + 1:route.index(way[k][3])]
            found += [way[k - 1][3], way[k][3], 0 if way[k][6] == way[k - 1][7] else 2 if between else 1]
        return [0, len(found)] + found

    def keeper(self, j, t):
        route, way = self.journeys[j - 1][3], self.way(j)
        held = [0, 0, route[0], 0]
        for k, one in enumerate(way):
            if one[5] <= t:
                ahead = way[k + 1][3] if k + 1 < len(way) else route[-1]
                held = {2: [0, 0, route[-1], 0], 3: [0, 2, 0, 0]}.get(one[4], [0, 1, one[3], ahead])
        return held

    def status(self, j, t):
        held = self.keeper(j, t)
        first = held[2] == self.journeys[j - 1][3][0]
        return [0, 3 if held[1] == 2 else 1 if held[1] == 1 else 0 if first else 2, int(self.is_overdue(j, t))]

    def is_overdue(self, j, t):
        limit, route, way = self.journeys[j - 1][2], self.journeys[j - 1][3], self.way(j)
        if not way or t - way[0][5] <= limit:
            return False
        return not any(one[3] == route[-1] and one[5] - way[0][5] <= limit for one in way)

    def overdue(self, t):
        found = [j for j in range(1, len(self.journeys) + 1) if self.is_overdue(j, t)]
        return [0, len(found)] + found

    def out(self, p, t):
        found = []
        for j in range(1, len(self.journeys) + 1):
            way = self.way(j)
            if self.journeys[j - 1][0] == p and way and way[0][5] <= t:
                if not any(one[4] == 3 and one[5] <= t for one in way):
                    found.append(j)
        return found

    def total(self, p, t):
        return sum(self.journeys[j - 1][1] for j in self.out(p, t))

    def covered(self, p, t):
        return max(((one[1], one[2]) for one in self.guarantees if one[0] == p and one[1] <= t), default=(0, 0))[1]

    def reserved(self, p, t):
        found = self.out(p, t)
        return [0, self.total(p, t), self.covered(p, t), len(found)] + found

    def peak(self, p):
        sums = [self.total(p, t) for t in range(END)]
        minute = sums.index(max(sums))
        found = self.out(p, minute)
        return [0, max(sums), minute, len(found)] + found

    def shorts(self, p):
        turns = {one[1] for one in self.guarantees if one[0] == p}
        for j in range(1, len(self.journeys) + 1):
            if self.journeys[j - 1][0] == p:
                way = self.way(j)
                turns |= {one[5] for one in way if one is way[0] or one[4] == 3}
        found = []
        for t in sorted(turns):
            if self.total(p, t) > self.covered(p, t):
                found += [t, min((turn for turn in turns if turn > t), default=-1), self.total(p, t), self.covered(p, t)]
        return [0, len(found)] + found


class Lists:
    """Makes lists of calls that agree with one another often enough to matter."""

    def __init__(self, seed):
        self.chance = random.Random(seed)
        self.routes = []

    def number(self, name):
        pick = self.chance
        if pick.random() < 0.01:
            return pick.choice((RANGES[name][0] - 1, RANGES[name][1] + 1, -FAR, FAR))
        if name == "j":
            return pick.randint(1, max(1, len(self.routes) + pick.choice((0, 0, 0, 0, 1))))
        top = {"p": 2, "t": END - 1, "money": 30, "hundredths": 100, "limit": 8}[name]
        return pick.randint(RANGES[name][0], top)

    def route(self):
        pick = self.chance
        route = pick.sample(range(1, 7), pick.randint(2, 5))
        if pick.random() < 0.05:
            return pick.choice(([], route[:1], route + route[:1], route + [10], [0] * 1200, list(range(1, 8))))
        self.routes.append(route)
        return route

    def one_news(self):
        pick = self.chance
        j = self.number("j")
        route = self.routes[j - 1] if 0 < j <= len(self.routes) else [1, 2, 3]
        place = pick.randrange(len(route))
        told = 0 if place == 0 else pick.choice((2, 3)) if place == len(route) - 1 else 1
        if pick.random() < 0.15:
            told = pick.randint(0, 4)
        office = route[place] if pick.random() < 0.9 else pick.randint(1, 9)
        minute = min(END - 1, 3 * place + pick.randint(0, 5))
        return [pick.randint(1, 25), pick.randint(1, 3), j, office, told, minute, pick.randint(1, 2), pick.randint(1, 2)]

    def news(self):
        pick = self.chance
        row = [value for k in range(pick.randint(0, 10)) for value in self.one_news()]
        if pick.random() < 0.05:
            return pick.choice((row + [1], row[1:], row + row + row, [FAR] * 8))
        return row

    def call(self, number):
        numbers = [self.number(name) for name in NAMES[number]]
        return number, numbers, {0: self.route, 2: self.news}.get(number, list)()


def flat(number, numbers, row):
    return [number, *numbers, *([len(row), *row] if number in (0, 2) else [])]


class WordsTest(DeskTest):
    def check(self, calls):
        words = Words()
        expected = [words.answer(*call) for call in calls]
        for call, wanted, answer in zip(calls, expected, ask(*[flat(*call) for call in calls])):
            self.assertEqual(answer, wanted, call)

    def test_mixed_calls(self):
        for seed in range(250):
            lists = Lists(seed)
            told = [lists.call(0) for k in range(lists.chance.randint(1, 6))]
            told += [lists.call(lists.chance.choice((1, 2, 2))) for k in range(14)]
            self.check(told + [lists.call(lists.chance.randint(0, 13)) for k in range(40)])

    def test_every_question_at_every_minute(self):
        for seed in range(60):
            lists = Lists(1000 + seed)
            told = [lists.call(0) for k in range(3)] + [lists.call(lists.chance.choice((1, 2, 2))) for k in range(9)]
            minutes = [(number, [1, t], []) for number in (4, 5, 10) for t in range(END)]
            self.check(told + minutes)
            self.check(told + [(13, [t], []) for t in range(END)] + [(3, [], [])] + [
                (number, [k], []) for number in (6, 7, 8, 9, 11, 12) for k in (1, 2, 3)])

    def test_many_tells(self):
        for seed in range(40):
            lists = Lists(2000 + seed)
            told = [lists.call(0) for k in range(4)]
            self.check(told + [lists.call(2) for k in range(50)] + [(3, [], []), (6, [1], []), (7, [1], [])])


if __name__ == "__main__":
    unittest.main()
