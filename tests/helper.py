"""Builds calls, splits answers, and has checks that several tests share."""

import unittest

from sealedgoods.desk import answers

FAR = 10 ** 18
LAST = 10 ** 9


def journey(p=1, money=1000, hundredths=100, limit=60, route=(1, 2, 3, 4)):
    return [0, p, money, hundredths, limit, len(route), *route]


def guarantee(p, t, money):
    return [1, p, t, money]


def news(number, version=1, j=1, office=1, told=0, minute=0, found=0, left=0):
    return [number, version, j, office, told, minute, found, left]


def tell_row(row):
    return [2, len(row), *row]


def tell(*told):
    return tell_row([number for one in told for number in one])


def known():
    return [3]


def status(j, t):
    return [4, j, t]


def keeper(j, t):
    return [5, j, t]


def way(j):
    return [6, j]


def faults(j):
    return [7, j]


def missing(j):
    return [8, j]


def seals(j):
    return [9, j]


def reserved(p, t):
    return [10, p, t]


def peak(p):
    return [11, p]


def shorts(p):
    return [12, p]


def overdue(t):
    return [13, t]


def split(flat):
    """The answers of a list of calls, one list each."""
    found = []
    place = 0
    while place < len(flat):
        found.append(flat[place + 1:place + 1 + flat[place]])
        place += 1 + flat[place]
    return found


def ask(*calls):
    """The answer of each call, all told to one new object."""
    if not 1 <= len(calls) <= 60:
        raise ValueError("a list has 1 to 60 calls")
    found = split(answers([number for call in calls for number in call]))
    if len(found) != len(calls):
        raise ValueError("not one answer for each call")
    return found


def last(*calls):
    return ask(*calls)[-1]


def row_of(answer, size):
    """The members of the one row behind the 0, size numbers each."""
    if answer[0] != 0 or answer[1] != len(answer) - 2 or answer[1] % size:
        raise ValueError(f"no accepted answer with one row of {size}s: {answer}")
    return [tuple(answer[k:k + size]) for k in range(2, len(answer), size)]


# Whatever a refused call could have changed shows in one of these.
STATE = (
    [known()] + [way(j) for j in (1, 2, 3)] + [faults(1), keeper(1, 30), overdue(LAST)]
    + [reserved(p, 30) for p in (1, 2, 6)] + [peak(1), shorts(1), shorts(2)]
)


class DeskTest(unittest.TestCase):
    maxDiff = None

    def check_refused(self, before, call, number):
        """The call is refused with that number behind those, and nothing is changed by it."""
        answer = ask(*before, call, *STATE)
        self.assertEqual(answer[len(before)], [number])
        self.assertEqual(answer[len(before) + 1:], ask(*before, *STATE)[len(before):])

    def check_range(self, before, make, low, high):
        """make(number) is taken from low to high, and refused with -1 beyond."""
        for number in (low, high):
            self.assertEqual(last(*before, make(number))[0], 0, number)
        for number in (low - 1, high + 1, -FAR, FAR):
            self.check_refused(before, make(number), -1)
