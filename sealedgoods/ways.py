"""A journey's way: what stays of its news, with whom it is, and what is amiss."""

from sealedgoods.news import ARRIVES, CLEARED, LEAVES, PASSES

CANNOT_BE = 1
ANOTHER_FIRST = 2
TOO_EARLY = 3

SAME_SEAL = 0
BROKEN = 1
PERHAPS_BROKEN = 2

AT_FIRST = 0
ON_ROAD = 1
ARRIVED = 2
DONE = 3

OFFICE_KEEPS = 0
CARRIER_KEEPS = 1
NOBODY_KEEPS = 2


def can_be(route, news):
    """Whether the news can be on the way: its office is on the route, where that may be told."""
    if news.office not in route:
        return False
    if news.office == route[0]:
        return news.told == LEAVES
    if news.office == route[-1]:
        return news.told in (ARRIVES, CLEARED)
    return news.told == PASSES


def stage_of(route, news):
    """The stage of a news that can be on the way."""
    stage = 2 * route.index(news.office)
    return stage + 1 if news.told == CLEARED else stage


def goes_before(news, other):
    """Whether the news goes first of two of one stage."""
    return (news.minute, news.number) < (other.minute, other.number)


def firsts_of(route, told):
    """By stage, the one news that counts there."""
    firsts = {}
    for news in told:
        if can_be(route, news):
            stage = stage_of(route, news)
            if stage not in firsts or goes_before(news, firsts[stage]):
                firsts[stage] = news
    return firsts


def way_of(route, told):
    """The way, in order: of the stages' news those that none before them makes too early."""
    firsts = firsts_of(route, told)
    way = []
    for stage in sorted(firsts):
        if not way or firsts[stage].minute >= way[-1].minute:
            way.append(firsts[stage])
    return way


def fault_of(route, firsts, news):
    """Why a news that isn't on the way isn't."""
    if not can_be(route, news):
        return CANNOT_BE
    if firsts[stage_of(route, news)].number != news.number:
        return ANOTHER_FIRST
    return TOO_EARLY


def faults_of(route, told):
    """For each news that isn't on the way, in the order handed in: its number, its fault."""
    firsts = firsts_of(route, told)
    stays = [news.number for news in way_of(route, told)]
    faults = []
    for news in told:
        if news.number not in stays:
            faults.extend([news.number, fault_of(route, firsts, news)])
    return faults


def missing_of(route, way):
    """The route's offices before that of the way's last news, of which nothing is on the way."""
    if not way:
        return []
    heard = [news.office for news in way]
    return [office for office in route[:route.index(way[-1].office)] if office not in heard]


def seal_between(route, news, later):
    """What the seals of two news of the way, one behind the other, tell."""
    if later.found == news.left:
        return SAME_SEAL
    steps = route.index(later.office) - route.index(news.office)
    return BROKEN if steps == 1 else PERHAPS_BROKEN


def seals_of(route, way):
    """For each two news of the way of which neither tells 3: both offices, what the seals tell."""
    sealed = [news for news in way if news.told != CLEARED]
    return [(news.office, later.office, seal_between(route, news, later)) for news, later in zip(sealed, sealed[1:])]


def come_by(way, minute):
    """How many of the way's news aren't behind the minute."""
    return len([news for news in way if news.minute <= minute])


def status_at(way, minute):
    """How far the journey is at the minute."""
    come = come_by(way, minute)
    if come == 0:
        return AT_FIRST
    if way[come - 1].told == CLEARED:
        return DONE
    return ARRIVED if way[come - 1].told == ARRIVES else ON_ROAD


def keeper_at(route, way, minute):
    """With whom the journey is at the minute: which kind of keeper, and up to two offices."""
    status = status_at(way, minute)
    if status == AT_FIRST:
        return [OFFICE_KEEPS, route[0], 0]
    if status == ARRIVED:
        return [OFFICE_KEEPS, route[-1], 0]
    if status == DONE:
        return [NOBODY_KEEPS, 0, 0]
    come = come_by(way, minute)
    ahead = way[come].office if come < len(way) else route[-1]
    return [CARRIER_KEEPS, way[come - 1].office, ahead]


def arrived_at(route, way):
    """The minute of the way's first news from the last office, None if there's none."""
    for news in way:
        if news.office == route[-1]:
            return news.minute
    return None


def cleared_at(way):
    """The minute at which the way says it's cleared, None if it doesn't."""
    for news in way:
        if news.told == CLEARED:
            return news.minute
    return None


def is_overdue(journey, way, minute):
    """Whether the journey is overdue at the minute."""
    if not way or minute <= way[0].minute + journey.limit:
        return False
    arrived = arrived_at(journey.route, way)
    return arrived is None or arrived > way[0].minute + journey.limit
