"""Many mixed lists of calls, beside the document's words written out the slow way."""

import copy
import itertools
import random
import re
import unittest

from tests.helper import DeskTest, FAR, LAST, ask, form_of

RANGES = {
    "p": (1, 6), "t": (0, LAST), "money": (0, LAST), "hundredths": (1, 100), "limit": (1, 1000000), "j": (1, 99),
    "n": (0, 40), "o": (1, 9),
}
NAMES = {
    0: ("p", "money", "hundredths", "limit"), 1: ("p", "t", "money"), 2: (), 3: (), 4: ("j", "t"), 5: ("j", "t"),
    6: ("j",), 7: ("j",), 8: ("j",), 9: ("j",), 10: ("p", "t"), 11: ("p",), 12: ("p",), 13: ("t",), 14: ("j", "t"), 15: (),
    16: ("n", "p", "t"), 17: ("n", "j", "t"), 18: (), 19: (), 20: (), 21: (), 22: (), 23: (), 24: ("o", "t"), 25: ("t",),
    26: ("j", "t"), 27: (),
}
WITH_ROW = (0, 2, 15, 20, 21, 23)
NEWS_RANGES = ((1, 999), (1, 9), (1, 99), (1, 9), (0, 4), (0, LAST), (0, 9999), (0, 9999))
# All that the lists below tell happens before this minute.
END = 16


# What a letter's news is token by token, each with its range where it has one.
GRAMMAR = (
    ("N", 1, 999), ".", ("N", 1, 9), "journey", ("N", 1, 99), "does", "at", ("N", 1, 9), "minute", ("N", 0, LAST), "found",
    ("N", 0, 9999), "left", ("N", 0, 9999), ";",
)
DOES = ["leaves", "passes", "arrives", "cleared", "nothing"]


def read_text(text):
    """(news, None) of a letter, or (None, (fault, place))."""
    found = [(part.group(), part.start()) for part in re.finditer("[a-z]+|[0-9]+|[^ \\n]", text)]
    news, one = [], []
    for token, place in found + [("", len(text))]:
        step = GRAMMAR[len(one)]
        if token == "" and not one:
            break
        if not re.fullmatch("|[a-z]{1,8}|0|[1-9][0-9]{0,9}|[.;]", token):
            return None, (1, place)
        if isinstance(step, tuple):
            if not token.isdigit():
                return None, (2, place)
            if not one and len(news) == 10:
                return None, (7, place)
            if not step[1] <= int(token) <= step[2]:
                return None, (3, place)
        elif token not in (DOES if step == "does" else [step]):
            return None, (2, place)
        one.append(token)
        if len(one) == len(GRAMMAR):
            news.append([int(one[k]) for k in (0, 2, 4, 7)] + [DOES.index(one[5])] + [int(one[k]) for k in (9, 11, 13)])
            one = []
    return news, None


class Words:
    """Keeps every news ever told, and works all out from the beginning at each question."""

    def __init__(self):
        self.journeys = []
        self.guarantees = []
        # Of each tell and letter, in order, its news.
        self.told = []

    def answer(self, number, numbers, row):
        for name, value in zip(NAMES[number], numbers):
            if not RANGES[name][0] <= value <= RANGES[name][1]:
                return [-1]
        if "j" in NAMES[number] and numbers[NAMES[number].index("j")] > len(self.journeys):
            return [-3]
        makers = (
            self.journey, self.guarantee, self.tell, self.all_known, self.status, self.keeper, self.way_row, self.faults,
            self.missing, self.seals, self.reserved, self.peak, self.shorts, self.overdue, self.may, self.plan, self.then,
            self.was, self.broken, self.all_journeys, self.letter, self.check, self.printed, self.would, self.at, self.road,
            self.when, self.counts,
        )
        if number in WITH_ROW:
            return makers[number](*numbers, row)
        return makers[number](*numbers)

    def journey(self, p, money, hundredths, limit, route):
        if not 2 <= len(route) <= 6 or min(route) < 1 or max(route) > 9:
            return [-1]
        if len(set(route)) < len(route):
            return [-5]
        if len(self.journeys) == 16:
            return [-6]
        self.journeys.append((p, self.share(money, hundredths), limit, route, money, hundredths))
        return [0, len(self.journeys), self.share(money, hundredths)]

    def share(self, money, hundredths):
        return next(whole for whole in range(money + 1) if whole * 100 >= money * hundredths)

    def guarantee(self, p, t, money):
        others = [one for one in self.guarantees if one[:2] != (p, t)]
        if len(others) == 20:
            return [-6]
        self.guarantees = others + [(p, t, money)]
        return [0, len(self.guarantees)]

    def known(self):
        found = {}
        told = [one for rows in self.told for one in rows]
        for number in {one[0] for one in told}:
            found[number] = sorted((one for one in told if one[0] == number), key=lambda one: (one[1], one))[-1]
        return found

    def tell(self, row):
        if len(row) % 8 or len(row) > 80:
            return [-1]
        rows = [tuple(row[k:k + 8]) for k in range(0, len(row), 8)]
        for one in rows:
            if any(not low <= value <= high for value, (low, high) in zip(one, NEWS_RANGES)):
                return [-1]
        return self.take(rows)

    def take(self, rows):
        if any(one[2] > len(self.journeys) for one in rows):
            return [-3]
        before = self.known()
        if len(self.told) == 40 or len(set(before) | {one[0] for one in rows}) > 80:
            return [-6]
        self.told.append(rows)
        after = self.known()
        return [0, sum(before.get(number) != one for number, one in after.items()), len(after)]

    def all_known(self):
        found = self.known()
        return [0, len(found)] + [value for number in sorted(found) for value in found[number]]

    def sorted_out(self, j):
        """Of the journey: its way, and the fault of each other news in force."""
        route = self.journeys[j - 1][3]
        stages = {(route[0], 0): 0, (route[-1], 2): 2 * len(route) - 2, (route[-1], 3): 2 * len(route) - 1}
        for place, office in enumerate(route[1:-1], 1):
            stages[(office, 1)] = 2 * place
        way, fault = [], {}
        force = [one for one in self.known().values() if one[2] == j and one[4] != 4]
        for one in force:
            if (one[3], one[4]) not in stages:
                fault[one[0]] = 1
        for stage in range(2 * len(route)):
            here = sorted((one[5], one[0], one) for one in force if stages.get((one[3], one[4])) == stage)
            for k, (minute, number, one) in enumerate(here):
                if k > 0:
                    fault[number] = 2
                elif any(minute < other[5] for other in way):
                    fault[number] = 3
                else:
                    way.append(one)
        return way, fault

    def way(self, j):
        return self.sorted_out(j)[0]

    def way_row(self, j):
        found = [value for one in self.way(j) for value in (one[0], one[3], one[4], one[5])]
        return [0, len(found)] + found

    def faults(self, j):
        found = self.sorted_out(j)[1]
        return [0, 2 * len(found)] + [value for number in sorted(found) for value in (number, found[number])]

    def missing(self, j):
        offices = [one[3] for one in self.way(j)]
        found = []
        for office in self.journeys[j - 1][3] if offices else ():
            if office == offices[-1]:
                break
            if office not in offices:
                found.append(office)
        return [0, len(found)] + found

    def seals(self, j):
        route, way, found = self.journeys[j - 1][3], self.way(j), []
        for k in range(1, len(way)):
            if 3 in (way[k - 1][4], way[k][4]):
                continue
            between = route[route.index(way[k - 1][3]) + 1:route.index(way[k][3])]
            found += [way[k - 1][3], way[k][3], 0 if way[k][6] == way[k - 1][7] else 2 if between else 1]
        return [0, len(found)] + found

    def keeper(self, j, t):
        route, way = self.journeys[j - 1][3], self.way(j)
        held = [0, 0, route[0], 0]
        for k, one in enumerate(way):
            if one[5] <= t:
                ahead = way[k + 1][3] if k + 1 < len(way) else route[-1]
                held = {2: [0, 0, route[-1], 0], 3: [0, 2, 0, 0]}.get(one[4], [0, 1, one[3], ahead])
        return held

    def status(self, j, t):
        held = self.keeper(j, t)
        first = held[2] == self.journeys[j - 1][3][0]
        return [0, 3 if held[1] == 2 else 1 if held[1] == 1 else 0 if first else 2, int(self.is_overdue(j, t))]

    def is_overdue(self, j, t):
        limit, route, way = self.journeys[j - 1][2], self.journeys[j - 1][3], self.way(j)
        if not way or t - way[0][5] <= limit:
            return False
        return not any(one[3] == route[-1] and one[5] - way[0][5] <= limit for one in way)

    def overdue(self, t):
        found = [j for j in range(1, len(self.journeys) + 1) if self.is_overdue(j, t)]
        return [0, len(found)] + found

    def out(self, p, t):
        found = []
        for j in range(1, len(self.journeys) + 1):
            way = self.way(j)
            if self.journeys[j - 1][0] == p and way and way[0][5] <= t:
                if not any(one[4] == 3 and one[5] <= t for one in way):
                    found.append(j)
        return found

    def total(self, p, t):
        return sum(self.journeys[j - 1][1] for j in self.out(p, t))

    def covered(self, p, t):
        return max(((one[1], one[2]) for one in self.guarantees if one[0] == p and one[1] <= t), default=(0, 0))[1]

    def reserved(self, p, t):
        found = self.out(p, t)
        return [0, self.total(p, t), self.covered(p, t), len(found)] + found

    def peak(self, p):
        sums = [self.total(p, t) for t in range(END)]
        minute = sums.index(max(sums))
        found = self.out(p, minute)
        return [0, max(sums), minute, len(found)] + found

    def shorts(self, p):
        turns = {one[1] for one in self.guarantees if one[0] == p}
        for j in range(1, len(self.journeys) + 1):
            if self.journeys[j - 1][0] == p:
                way = self.way(j)
                turns |= {one[5] for one in way if one is way[0] or one[4] == 3}
        found = []
        for t in sorted(turns):
            if self.total(p, t) > self.covered(p, t):
                found += [t, min((turn for turn in turns if turn > t), default=-1), self.total(p, t), self.covered(p, t)]
        return [0, len(found)] + found

    def may_at(self, j, t):
        """Whether it's covered at this minute and at every later one."""
        p, share = self.journeys[j - 1][:2]
        return all(self.total(p, later) + share <= self.covered(p, later) for later in range(t, max(END, t) + 1))

    def may(self, j, t):
        return [-7] if self.way(j) else [0, int(self.may_at(j, t))]

    def when(self, j, t):
        if self.way(j):
            return [-7]
        first = next((minute for minute in range(t, max(END, t) + 1) if self.may_at(j, minute)), None)
        return [0, 0] if first is None else [0, 1, first]

    def plan(self, row):
        planned, rest = [], list(row)
        while rest:
            head, size = rest[:4], rest[3] if len(rest) > 3 else 0
            if not 1 <= size <= 4 or len(rest) < 4 + size:
                return [-1]
            ranges = [(0, LAST), (1, 100), (1, 1000000), (1, 4)] + [(0, LAST)] * size
            if any(not low <= value <= high for value, (low, high) in zip(rest, ranges)):
                return [-1]
            planned.append((self.share(head[0], head[1]), head[2], rest[4:4 + size]))
            rest = rest[4 + size:]
        if not 1 <= len(planned) <= 6:
            return [-1]
        best = None
        for minutes in itertools.product(*[one[2] for one in planned]):
            sums = [0] * 60
            for begin, (share, out, choices) in zip(minutes, planned):
                for minute in range(begin, min(60, begin + out)):
                    sums[minute] += share
            if best is None or max(sums) < best[0]:
                best = (max(sums), minutes)
        return [0, best[0], len(planned), *best[1]]

    def back(self, n):
        """As it is now, but with the news of the first n tells and letters alone."""
        other = copy.copy(self)
        other.told = self.told[:n]
        return other

    def then(self, n, p, t):
        return [-3] if n > len(self.told) else [0, self.back(n).total(p, t)]

    def was(self, n, j, t):
        return [-3] if n > len(self.told) else self.back(n).keeper(j, t)

    def each(self):
        return range(1, len(self.journeys) + 1)

    def broken(self):
        found = []
        for j in self.each():
            row = self.seals(j)[2:]
            for k in range(0, len(row), 3):
                found += [j, *row[k:k + 3]] if row[k + 2] else []
        return [0, len(found)] + found

    def all_journeys(self):
        found = [0, len(self.journeys)]
        for p, share, limit, route, money, hundredths in self.journeys:
            found += [p, money, hundredths, limit, len(route), *route]
        return found

    def read(self, row):
        """(news, None), or (None, refusal)."""
        if any(not 0 <= byte <= 255 for byte in row):
            return None, [-1]
        news, fault = read_text("".join(map(chr, row)))
        return (None, [-5]) if fault else ([tuple(one) for one in news], None)

    def letter(self, row):
        news, refusal = self.read(row)
        return refusal or self.take(news)

    def check(self, row):
        if self.read(row)[1] == [-1]:
            return [-1]
        fault = read_text("".join(map(chr, row)))[1]
        return [0, *(fault or (0, 0))]

    def printed(self):
        text = form_of(*[row for number, row in sorted(self.known().items())])
        return [0, len(text), *map(ord, text)]

    def would(self, row):
        news, refusal = self.read(row)
        if refusal:
            return refusal
        if any(one[2] > len(self.journeys) for one in news):
            return [-3]
        other = copy.copy(self)
        other.told = self.told + [news]
        ways = [j for j in self.each() if self.steps(j) != other.steps(j)]
        principals = [p for p in range(1, 7) if self.peak(p)[1] != other.peak(p)[1]]
        return [0, len(ways), *ways, len(principals), *principals]

    def steps(self, j):
        return [(one[3], one[4], one[5]) for one in self.way(j)]

    def at(self, o, t):
        found = [j for j in self.each() if self.keeper(j, t)[1:3] == [0, o]]
        return [0, len(found)] + found

    def road(self, t):
        found = [value for j in self.each() if self.keeper(j, t)[1] == 1 for value in (j, *self.keeper(j, t)[2:])]
        return [0, len(found)] + found

    def counts(self):
        found = self.known().values()
        return [0, len(self.journeys), len(self.guarantees), len(self.told), len(found), sum(one[4] != 4 for one in found)]


class Lists:
    """Makes lists of calls that agree with one another often enough to matter."""

    def __init__(self, seed):
        self.chance = random.Random(seed)
        self.routes = []

    def number(self, name):
        pick = self.chance
        if pick.random() < 0.01:
            return pick.choice((RANGES[name][0] - 1, RANGES[name][1] + 1, -FAR, FAR))
        if name == "j":
            return pick.randint(1, max(1, len(self.routes) + pick.choice((0, 0, 0, 0, 1))))
        top = {"p": 2, "t": END - 1, "money": 30, "hundredths": 100, "limit": 8, "n": 12, "o": 6}[name]
        return pick.randint(RANGES[name][0], top)

    def route(self):
        pick = self.chance
        route = pick.sample(range(1, 7), pick.randint(2, 5))
        if pick.random() < 0.05:
            return pick.choice(([], route[:1], route + route[:1], route + [10], [0] * 1200, list(range(1, 8))))
        self.routes.append(route)
        return route

    def one_news(self):
        pick = self.chance
        j = self.number("j")
        route = self.routes[j - 1] if 0 < j <= len(self.routes) else [1, 2, 3]
        place = pick.randrange(len(route))
        told = 0 if place == 0 else pick.choice((2, 3)) if place == len(route) - 1 else 1
        if pick.random() < 0.15:
            told = pick.randint(0, 4)
        office = route[place] if pick.random() < 0.9 else pick.randint(1, 9)
        minute = min(END - 1, 3 * place + pick.randint(0, 5))
        return [pick.randint(1, 25), pick.randint(1, 3), j, office, told, minute, pick.randint(1, 2), pick.randint(1, 2)]

    def news(self):
        pick = self.chance
        row = [value for k in range(pick.randint(0, 10)) for value in self.one_news()]
        if pick.random() < 0.05:
            return pick.choice((row + [1], row[1:], row + row + row, [FAR] * 8))
        return row

    def planned(self):
        pick = self.chance
        row = []
        for k in range(pick.choice((1, 2, 3, 3, 4))):
            size = pick.randint(1, 4)
            row += [self.number("money"), self.number("hundredths"), pick.randint(1, 9), size]
            row += [self.number("t") for again in range(size)]
        if pick.random() < 0.1:
            return pick.choice((row + [1], row[1:], row[:-1], row * 7, [], [FAR] * 5, [1, 1, 1, 0], [1, 1, 1, 5, 1, 1, 1, 1, 1]))
        return row

    def text(self):
        """A letter, often with other blanks, sometimes with something wrong."""
        pick = self.chance
        tokens = []
        for k in range(pick.choice((0, 1, 1, 2, 3, 9, 10, 10, 11)) if pick.random() < 0.3 else pick.randint(0, 4)):
            text = form_of(self.one_news())
            tokens += re.findall("[a-z]+|[0-9]+|[.;]", text)
        if len(tokens) > 10 * len(GRAMMAR) and pick.random() < 0.5:
            tokens[10 * len(GRAMMAR)] = pick.choice(("0", "1", "999", "1000", "9999999999", "00", "10000000000", ";", "at", "#"))
        if tokens and pick.random() < 0.25:
            tokens[pick.randrange(len(tokens))] = pick.choice(
                ("at", "7", "0", "01", "10000000000", "9999999999", "100", "1000", ";", ".", "", "#", "abcdefgh", "abcdefghi", "left"))
        if pick.random() < 0.5:
            text = " ".join(tokens)
        else:
            text = "".join(token + pick.choice(("", " ", "\n", " \n")) for token in tokens)
            text = re.sub("(leaves|passes|arrives|cleared|nothing)at", "\\1 at", text) if pick.random() < 0.95 else text
        row = [ord(sign) for sign in text][:1200]
        if row and pick.random() < 0.05:
            row[pick.randrange(len(row))] = pick.choice((0, 255, 256, -1, FAR, -FAR, 65))
        return row

    def call(self, number):
        numbers = [self.number(name) for name in NAMES[number]]
        makers = {0: self.route, 2: self.news, 15: self.planned, 20: self.text, 21: self.text, 23: self.text}
        return number, numbers, makers.get(number, list)()


def flat(number, numbers, row):
    return [number, *numbers, *([len(row), *row] if number in WITH_ROW else [])]


class WordsTest(DeskTest):
    def check(self, calls):
        words = Words()
        expected = [words.answer(*call) for call in calls]
        for call, wanted, answer in zip(calls, expected, ask(*[flat(*call) for call in calls])):
            self.assertEqual(answer, wanted, call)

    def test_mixed_calls(self):
        for seed in range(250):
            lists = Lists(seed)
            told = [lists.call(0) for k in range(lists.chance.randint(1, 6))]
            told += [lists.call(lists.chance.choice((1, 2, 20))) for k in range(14)]
            self.check(told + [lists.call(lists.chance.randint(0, 27)) for k in range(40)])

    def test_every_question_at_every_minute(self):
        for seed in range(60):
            lists = Lists(1000 + seed)
            told = [lists.call(0) for k in range(3)] + [lists.call(lists.chance.choice((1, 2, 2))) for k in range(9)]
            minutes = [(number, [1, t], []) for number in (4, 5, 10) for t in range(END)]
            self.check(told + minutes)
            self.check(told + [(13, [t], []) for t in range(END)] + [(3, [], [])] + [
                (number, [k], []) for number in (6, 7, 8, 9, 11, 12) for k in (1, 2, 3)])
            self.check(told + [(number, [1, t], []) for number in (14, 24, 26) for t in range(END)])
            self.check(told + [(25, [t], []) for t in range(END)] + [(number, [], []) for number in (18, 19, 22, 27)])
            self.check(told + [(number, [n, 1, t], []) for number in (16, 17) for n in (0, 2, 4) for t in range(0, END, 2)])

    def test_many_tells(self):
        for seed in range(40):
            lists = Lists(2000 + seed)
            told = [lists.call(0) for k in range(4)]
            self.check(told + [lists.call(lists.chance.choice((2, 20))) for k in range(50)] + [
                (3, [], []), (6, [1], []), (7, [1], []), (27, [], []), (16, [40, 1, 5], []), lists.call(23)])

    def test_many_letters_plans_and_looks_ahead(self):
        for seed in range(60):
            lists = Lists(3000 + seed)
            told = [lists.call(0) for k in range(4)] + [lists.call(lists.chance.choice((1, 1, 20))) for k in range(8)]
            self.check(told + [lists.call(lists.chance.choice((14, 15, 20, 21, 21, 23, 23, 26))) for k in range(48)])


if __name__ == "__main__":
    unittest.main()
