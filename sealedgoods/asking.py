"""The calls that ask, and change nothing."""

from sealedgoods.cover import first_leave, guarantee_at, out_at, peak_of, shorts_of, sum_at
from sealedgoods.forms import is_text
from sealedgoods.letters import NO_FAULT, letter_of, read_letter
from sealedgoods.news import by_numbers
from sealedgoods.plans import least_plan, read_planned
from sealedgoods.replies import FAULTY, NO_JOURNEY, NOT_SO_MANY, ON_WAY, WRONG, counted
from sealedgoods.ways import CARRIER_KEEPS, OFFICE_KEEPS, SAME_SEAL, faults_of, is_overdue, missing_of, status_at

PRINCIPALS = (1, 2, 3, 4, 5, 6)


def ask_known(book, numbers, row):
    """All that's known, by numbers."""
    known = book.now().known
    answer = [0, len(known)]
    for news in by_numbers(known):
        answer.extend(news.row)
    return answer


def ask_status(book, numbers, row):
    """How far a journey is, and whether it's overdue."""
    view = book.now()
    way = view.way_of_journey(numbers[0])
    late = is_overdue(view.journey_of(numbers[0]), way, numbers[1])
    return [0, status_at(way, numbers[1]), 1 if late else 0]


def ask_keeper(book, numbers, row):
    """With whom a journey is."""
    return [0] + book.now().keeper_of(numbers[0], numbers[1])


def ask_way(book, numbers, row):
    """Four numbers for each news of a journey's way."""
    told = []
    for news in book.now().way_of_journey(numbers[0]):
        told.extend([news.number, news.office, news.told, news.minute])
    return [0] + counted(told)


def ask_faults(book, numbers, row):
    """Two numbers for each news in force that isn't on a journey's way."""
    view = book.now()
    return [0] + counted(faults_of(view.route_of(numbers[0]), view.force_of(numbers[0])))


def ask_missing(book, numbers, row):
    """The offices that a journey has passed unheard."""
    view = book.now()
    return [0] + counted(missing_of(view.route_of(numbers[0]), view.way_of_journey(numbers[0])))


def ask_seals(book, numbers, row):
    """Three numbers for each two news of a journey's way that tell of seals."""
    seals = []
    for seal in book.now().seals_of_journey(numbers[0]):
        seals.extend(seal)
    return [0] + counted(seals)


def ask_reserved(book, numbers, row):
    """What's out of a principal, its guarantee, and which journeys are out."""
    spans = book.now().spans_of(numbers[0])
    covered = guarantee_at(book.guarantees, numbers[0], numbers[1])
    return [0, sum_at(spans, numbers[1]), covered] + counted(out_at(spans, numbers[1]))


def ask_peak(book, numbers, row):
    """The greatest sum ever out of a principal, its first minute, and which journeys are out then."""
    spans = book.now().spans_of(numbers[0])
    peak = peak_of(spans)
    return [0, peak[0], peak[1]] + counted(out_at(spans, peak[1]))


def ask_shorts(book, numbers, row):
    """Four numbers for each turn at which a principal's guarantee is too small."""
    spans = book.now().spans_of(numbers[0])
    return [0] + counted(shorts_of(spans, book.guarantees, numbers[0]))


def ask_overdue(book, numbers, row):
    """The journeys that are overdue."""
    view = book.now()
    late = []
    for number in view.all_numbers():
        if is_overdue(view.journey_of(number), view.way_of_journey(number), numbers[0]):
            late.append(number)
    return [0] + counted(late)


def leave_from(book, number, minute):
    """The first minute from this one on at which the journey of this number may leave, None if there's none."""
    view = book.now()
    journey = view.journey_of(number)
    return first_leave(view.spans_of(journey.principal), book.guarantees, journey, minute)


def ask_may(book, numbers, row):
    """Whether a journey may leave at a minute."""
    if book.now().way_of_journey(numbers[0]):
        return [ON_WAY]
    return [0, 1 if leave_from(book, numbers[0], numbers[1]) == numbers[1] else 0]


def ask_when(book, numbers, row):
    """When a journey may leave, from a minute on."""
    if book.now().way_of_journey(numbers[0]):
        return [ON_WAY]
    first = leave_from(book, numbers[0], numbers[1])
    return [0, 0] if first is None else [0, 1, first]


def ask_plan(book, numbers, row):
    """The least guarantee that a plan needs, and when each journey leaves then."""
    planned = read_planned(row)
    if not planned:
        return [WRONG]
    plan = least_plan(planned)
    return [0, plan.greatest] + counted(plan.minutes)


def ask_then(book, numbers, row):
    """What's out of a principal by what was known then."""
    if numbers[0] > book.tells():
        return [NOT_SO_MANY]
    return [0, sum_at(book.then(numbers[0]).spans_of(numbers[1]), numbers[2])]


def ask_was(book, numbers, row):
    """With whom a journey is by what was known then."""
    if numbers[0] > book.tells():
        return [NOT_SO_MANY]
    return [0] + book.then(numbers[0]).keeper_of(numbers[1], numbers[2])


def ask_broken(book, numbers, row):
    """Four numbers for each two news of a way between which a seal was broken."""
    view = book.now()
    broken = []
    for number in view.all_numbers():
        for seal in view.seals_of_journey(number):
            if seal[2] != SAME_SEAL:
                broken.extend([number, seal[0], seal[1], seal[2]])
    return [0] + counted(broken)


def ask_journeys(book, numbers, row):
    """All journeys as they were told."""
    answer = [0, len(book.journeys)]
    for journey in book.journeys:
        answer.extend([journey.principal, journey.money, journey.hundredths, journey.limit])
        answer.extend(counted(journey.route))
    return answer


def ask_check(book, numbers, row):
    """A letter's fault and its place."""
    if not is_text(row):
        return [WRONG]
    letter = read_letter(row)
    return [0, letter.fault, letter.place]


def ask_printed(book, numbers, row):
    """All that's known as one letter."""
    return [0] + counted(letter_of(by_numbers(book.now().known)))


def changes_between(before, after):
    """The journeys whose steps differ in the two views, and the principals whose greatest sum does."""
    journeys = [number for number in before.all_numbers() if before.steps_of(number) != after.steps_of(number)]
    principals = []
    for principal in PRINCIPALS:
        if peak_of(before.spans_of(principal))[0] != peak_of(after.spans_of(principal))[0]:
            principals.append(principal)
    return counted(journeys) + counted(principals)


def ask_would(book, numbers, row):
    """What a letter would change, if it were told."""
    if not is_text(row):
        return [WRONG]
    letter = read_letter(row)
    if letter.fault != NO_FAULT:
        return [FAULTY]
    if not book.has_journeys_of(letter.told):
        return [NO_JOURNEY]
    return [0] + changes_between(book.now(), book.with_news(letter.told))


def ask_at(book, numbers, row):
    """The journeys that are with an office."""
    view = book.now()
    held = []
    for number in view.all_numbers():
        keeper = view.keeper_of(number, numbers[1])
        if keeper[0] == OFFICE_KEEPS and keeper[1] == numbers[0]:
            held.append(number)
    return [0] + counted(held)


def ask_road(book, numbers, row):
    """Three numbers for each journey that's with the carrier."""
    view = book.now()
    carried = []
    for number in view.all_numbers():
        keeper = view.keeper_of(number, numbers[0])
        if keeper[0] == CARRIER_KEEPS:
            carried.extend([number, keeper[1], keeper[2]])
    return [0] + counted(carried)


def ask_counts(book, numbers, row):
    """How many journeys, guarantees, tells and letters, news known and in force there are."""
    view = book.now()
    return [0, len(book.journeys), len(book.guarantees), book.tells(), len(view.known), len(view.force())]


ASKERS = {
    "known": ask_known,
    "status": ask_status,
    "keeper": ask_keeper,
    "way": ask_way,
    "faults": ask_faults,
    "missing": ask_missing,
    "seals": ask_seals,
    "reserved": ask_reserved,
    "peak": ask_peak,
    "shorts": ask_shorts,
    "overdue": ask_overdue,
    "may": ask_may,
    "plan": ask_plan,
    "then": ask_then,
    "was": ask_was,
    "broken": ask_broken,
    "journeys": ask_journeys,
    "check": ask_check,
    "printed": ask_printed,
    "would": ask_would,
    "at": ask_at,
    "road": ask_road,
    "when": ask_when,
    "counts": ask_counts,
}


def answer_asked(book, call):
    """What a call that asks is answered."""
    return ASKERS[call.name](book, call.numbers, call.row)
