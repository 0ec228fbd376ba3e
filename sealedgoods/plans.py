"""Plans: when journeys could best leave, and the least guarantee that they need."""

from sealedgoods.forms import fits
from sealedgoods.journeys import share_of

PLANNED_NAMES = ("money", "hundredths", "duration", "choices")
MOST_PLANNED = 6


class Planned:
    """A journey planned: its share, how many minutes it's out, and when it could leave."""

    def __init__(self, share, duration, minutes):
        self.share = share
        self.duration = duration
        self.minutes = minutes


class Stay:
    """A planned journey that's out from begin till before end; total is what's out of all at its begin."""

    def __init__(self, begin, end, share, total):
        self.begin = begin
        self.end = end
        self.share = share
        self.total = total


class Plan:
    """One way to leave: the minute of each journey, and the greatest sum that's out."""

    def __init__(self, minutes, greatest):
        self.minutes = minutes
        self.greatest = greatest


def read_planned(row):
    """The journeys planned in the row; none if it isn't as told."""
    planned = []
    place = 0
    while place < len(row):
        behind = place + len(PLANNED_NAMES)
        head = row[place:behind]
        if not fits(PLANNED_NAMES, head):
            return []
        end = behind + head[3]
        minutes = row[behind:end]
        if not fits(("t",) * head[3], minutes):
            return []
        planned.append(Planned(share_of(head[0], head[1]), head[2], minutes))
        place = end
    return planned if len(planned) <= MOST_PLANNED else []


def with_stay(stays, planned, begin):
    """The stays, and one more: the planned journey's that leaves at begin."""
    end = begin + planned.duration
    after = []
    total = planned.share
    for stay in stays:
        raised = stay.total + planned.share if begin <= stay.begin < end else stay.total
        after.append(Stay(stay.begin, stay.end, stay.share, raised))
        if stay.begin <= begin < stay.end:
            total += stay.share
    after.append(Stay(begin, end, planned.share, total))
    return after


def better_plan(planned, stays, best):
    """The first of the least plans that begin with these stays, or the best so far if none is less."""
    # A sum grows only where a journey leaves, so the greatest one is at a begin.
    greatest = max([stay.total for stay in stays], default=0)
    # One more journey never makes it less, so nothing behind can be less than the best either.
    if best is not None and greatest >= best.greatest:
        return best
    if len(stays) == len(planned):
        return Plan([stay.begin for stay in stays], greatest)
    later = planned[len(stays)]
    for minute in later.minutes:
        best = better_plan(planned, with_stay(stays, later, minute), best)
    return best


def least_plan(planned):
    """Of all ways to leave the first whose greatest sum is the least."""
    return better_plan(planned, [], None)
