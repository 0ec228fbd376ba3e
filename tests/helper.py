"""Builds calls, splits answers, and has checks that several tests share."""

import unittest

from sealedgoods.desk import answers

FAR = 10 ** 18
LAST = 10 ** 9


def journey(p=1, money=1000, hundredths=100, limit=60, route=(1, 2, 3, 4)):
    return [0, p, money, hundredths, limit, len(route), *route]


def guarantee(p, t, money):
    return [1, p, t, money]


def news(number, version=1, j=1, office=1, told=0, minute=0, found=0, left=0):
    return [number, version, j, office, told, minute, found, left]


def close_news(chance, size):
    """So many news of two journeys, close enough that many are of one number and version."""
    return [
        news(chance.randint(1, 6), chance.randint(1, 3), chance.randint(1, 2), chance.randint(1, 4),
             chance.randint(0, 4), chance.randint(0, 3), chance.randint(0, 1), chance.randint(0, 1))
        for k in range(size)
    ]


def tell_row(row):
    return [2, len(row), *row]


def tell(*told):
    return tell_row([number for one in told for number in one])


def known():
    return [3]


def status(j, t):
    return [4, j, t]


def keeper(j, t):
    return [5, j, t]


def way(j):
    return [6, j]


def faults(j):
    return [7, j]


def missing(j):
    return [8, j]


def seals(j):
    return [9, j]


def reserved(p, t):
    return [10, p, t]


def peak(p):
    return [11, p]


def shorts(p):
    return [12, p]


def overdue(t):
    return [13, t]


def may(j, t):
    return [14, j, t]


def plan_row(row):
    return [15, len(row), *row]


def planned(money, out, minutes, hundredths=100):
    return [money, hundredths, out, len(minutes), *minutes]


def plan(*all_planned):
    return plan_row([number for one in all_planned for number in one])


def then(n, p, t):
    return [16, n, p, t]


def was(n, j, t):
    return [17, n, j, t]


def broken():
    return [18]


def journeys():
    return [19]


def text_call(number, text):
    """A call whose row is a text, told as a str or as its numbers."""
    row = [ord(sign) for sign in text] if isinstance(text, str) else list(text)
    return [number, len(row), *row]


def letter(text):
    return text_call(20, text)


def check(text):
    return text_call(21, text)


def printed():
    return [22]


def would(text):
    return text_call(23, text)


def at(o, t):
    return [24, o, t]


def road(t):
    return [25, t]


def when(j, t):
    return [26, j, t]


def counts():
    return [27]


def form_of(*told):
    """These news as a letter in the one form."""
    does = ("leaves", "passes", "arrives", "cleared", "nothing")
    return " ".join(
        "%d.%d journey %d %s at %d minute %d found %d left %d;" % (
            one[0], one[1], one[2], does[one[4]], one[3], one[5], one[6], one[7])
        for one in told)


def split(flat):
    """The answers of a list of calls, one list each."""
    found = []
    place = 0
    while place < len(flat):
        found.append(flat[place + 1:place + 1 + flat[place]])
        place += 1 + flat[place]
    return found


def ask(*calls):
    """The answer of each call, all told to one new object."""
    if not 1 <= len(calls) <= 60:
        raise ValueError("a list has 1 to 60 calls")
    found = split(answers([number for call in calls for number in call]))
    if len(found) != len(calls):
        raise ValueError("not one answer for each call")
    return found


def last(*calls):
    return ask(*calls)[-1]


def row_of(answer, size):
    """The members of the one row behind the 0, size numbers each."""
    if answer[0] != 0 or answer[1] != len(answer) - 2 or answer[1] % size:
        raise ValueError(f"no accepted answer with one row of {size}s: {answer}")
    return [tuple(answer[k:k + size]) for k in range(2, len(answer), size)]


# Whatever a refused call could have changed shows in one of these; two lists, since a list has 60 calls at most.
STATES = (
    [known()] + [way(j) for j in (1, 2, 3)] + [faults(1), keeper(1, 30), overdue(LAST)]
    + [reserved(p, 30) for p in (1, 2, 6)] + [peak(1), shorts(1), shorts(2)],
    [counts(), journeys(), printed(), broken(), at(1, 30), at(4, 30), road(30), then(1, 1, 30), was(1, 1, 30),
     may(2, 30), when(1, 0)],
)


class DeskTest(unittest.TestCase):
    maxDiff = None

    def check_refused(self, before, call, number):
        """The call is refused with that number behind those, and nothing is changed by it."""
        for state in STATES:
            answer = ask(*before, call, *state)
            self.assertEqual(answer[len(before)], [number])
            self.assertEqual(answer[len(before) + 1:], ask(*before, *state)[len(before):])

    def check_range(self, before, make, low, high):
        """make(number) is taken from low to high, and refused with -1 beyond."""
        for number in (low, high):
            self.assertEqual(last(*before, make(number))[0], 0, number)
        for number in (low - 1, high + 1, -FAR, FAR):
            self.check_refused(before, make(number), -1)

    def check_journey_range(self, before, make, told):
        """make(j) is taken for the first and the last journey told, refused with -3 up to 99, with -1 beyond."""
        for j in (1, told):
            self.assertEqual(last(*before, make(j))[0], 0, j)
        for j in (told + 1, 99):
            self.check_refused(before, make(j), -3)
        for j in (0, 100, -FAR, FAR):
            self.check_refused(before, make(j), -1)
