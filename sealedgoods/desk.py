"""The desk: takes a list of calls and answers them one by one."""

from sealedgoods.book import Book
from sealedgoods.cover import guarantee_at, out_at, peak_of, shorts_of, sum_at
from sealedgoods.forms import fits, is_news, is_route, read_calls
from sealedgoods.journeys import Journey
from sealedgoods.news import by_numbers, count_changed, known_with, news_in
from sealedgoods.ways import faults_of, is_overdue, keeper_at, missing_of, seals_of, status_at

WRONG = -1
NO_JOURNEY = -3
TWICE = -5
FULL = -6

MOST_JOURNEYS = 16
MOST_GUARANTEES = 20
MOST_TELLS = 40
MOST_KNOWN = 80


def counted(numbers):
    """The numbers as a row of an answer."""
    return [len(numbers)] + numbers


def tell_journey(book, numbers, row):
    """A new journey: its number and its share."""
    if not is_route(row):
        return [WRONG]
    if len(set(row)) != len(row):
        return [TWICE]
    if len(book.journeys) == MOST_JOURNEYS:
        return [FULL]
    journey = Journey(numbers[0], numbers[1], numbers[2], numbers[3], row)
    book.journeys.append(journey)
    return [0, len(book.journeys), journey.share]


def tell_guarantee(book, numbers, row):
    """A principal's guarantee from a minute on: how many there are."""
    key = (numbers[0], numbers[1])
    if key not in book.guarantees and len(book.guarantees) == MOST_GUARANTEES:
        return [FULL]
    book.guarantees[key] = numbers[2]
    return [0, len(book.guarantees)]


def take_news(book, told):
    """What telling these news answers, and what it changes."""
    if not all([book.has_journey(news.journey) for news in told]):
        return [NO_JOURNEY]
    before = book.known
    after = known_with(before, told)
    if book.tells == MOST_TELLS or len(after) > MOST_KNOWN:
        return [FULL]
    book.known = after
    book.tells = book.tells + 1
    return [0, count_changed(before, after), len(after)]


def tell_news(book, numbers, row):
    """News: how many changed what's known, how many are known."""
    if not is_news(row):
        return [WRONG]
    return take_news(book, news_in(row))


def ask_known(book, numbers, row):
    """All that's known, by numbers."""
    answer = [0, len(book.known)]
    for news in by_numbers(book.known):
        answer.extend(news.row)
    return answer


def ask_status(book, numbers, row):
    """How far a journey is, and whether it's overdue."""
    way = book.way_of_journey(numbers[0])
    late = is_overdue(book.journey_of(numbers[0]), way, numbers[1])
    return [0, status_at(way, numbers[1]), 1 if late else 0]


def ask_keeper(book, numbers, row):
    """With whom a journey is."""
    way = book.way_of_journey(numbers[0])
    return [0] + keeper_at(book.route_of(numbers[0]), way, numbers[1])


def ask_way(book, numbers, row):
    """Four numbers for each news of a journey's way."""
    told = []
    for news in book.way_of_journey(numbers[0]):
        told.extend([news.number, news.office, news.told, news.minute])
    return [0] + counted(told)


def ask_faults(book, numbers, row):
    """Two numbers for each news in force that isn't on a journey's way."""
    return [0] + counted(faults_of(book.route_of(numbers[0]), book.force_of(numbers[0])))


def ask_missing(book, numbers, row):
    """The offices that a journey has passed unheard."""
    return [0] + counted(missing_of(book.route_of(numbers[0]), book.way_of_journey(numbers[0])))


def ask_seals(book, numbers, row):
    """Three numbers for each two news of a journey's way that tell of seals."""
    return [0] + counted(seals_of(book.route_of(numbers[0]), book.way_of_journey(numbers[0])))


def ask_reserved(book, numbers, row):
    """What's out of a principal, its guarantee, and which journeys are out."""
    spans = book.spans_of(numbers[0])
    covered = guarantee_at(book.guarantees, numbers[0], numbers[1])
    return [0, sum_at(spans, numbers[1]), covered] + counted(out_at(spans, numbers[1]))


def ask_peak(book, numbers, row):
    """The greatest sum ever out of a principal, its first minute, and which journeys are out then."""
    spans = book.spans_of(numbers[0])
    peak = peak_of(spans)
    return [0, peak[0], peak[1]] + counted(out_at(spans, peak[1]))


def ask_shorts(book, numbers, row):
    """Four numbers for each turn at which a principal's guarantee is too small."""
    spans = book.spans_of(numbers[0])
    return [0] + counted(shorts_of(spans, book.guarantees, numbers[0]))


def ask_overdue(book, numbers, row):
    """The journeys that are overdue."""
    late = []
    for number, journey in enumerate(book.journeys, start=1):
        if is_overdue(journey, book.way_of_journey(number), numbers[0]):
            late.append(number)
    return [0] + counted(late)


ANSWERERS = {
    "journey": tell_journey,
    "guarantee": tell_guarantee,
    "tell": tell_news,
    "known": ask_known,
    "status": ask_status,
    "keeper": ask_keeper,
    "way": ask_way,
    "faults": ask_faults,
    "missing": ask_missing,
    "seals": ask_seals,
    "reserved": ask_reserved,
    "peak": ask_peak,
    "shorts": ask_shorts,
    "overdue": ask_overdue,
}


def names_no_journey(book, call):
    """Whether the call names a journey that was never told."""
    if "j" not in call.names:
        return False
    return not book.has_journey(call.numbers[call.names.index("j")])


def answer_of(book, call):
    """What one call is answered, its refusals among it."""
    # A call that isn't built yet answers no number at all, which no real answer does.
    if call.name not in ANSWERERS:
        return []
    if not fits(call.names, call.numbers):
        return [WRONG]
    # No call that names a journey has a row too, so no -1 can be due behind this -3.
    if names_no_journey(book, call):
        return [NO_JOURNEY]
    return ANSWERERS[call.name](book, call.numbers, call.row)


def answers(calls):
    """For each call of the list, in order: how many numbers are answered, then these."""
    book = Book()
    told = []
    for call in read_calls(calls):
        answer = answer_of(book, call)
        told.append(len(answer))
        told.extend(answer)
    return told
