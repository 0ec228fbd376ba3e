"""The calls that tell something: journeys, guarantees and news."""

from sealedgoods.forms import is_news, is_route, is_text
from sealedgoods.journeys import Journey
from sealedgoods.letters import NO_FAULT, read_letter
from sealedgoods.news import count_changed, known_with, news_in
from sealedgoods.replies import FAULTY, FULL, NO_JOURNEY, TWICE, WRONG

MOST_JOURNEYS = 16
MOST_GUARANTEES = 20
MOST_TELLS = 40
MOST_KNOWN = 80


def tell_journey(book, numbers, row):
    """A new journey: its number and its share."""
    if not is_route(row):
        return [WRONG]
    if len(set(row)) != len(row):
        return [TWICE]
    if len(book.journeys) == MOST_JOURNEYS:
        return [FULL]
    journey = Journey(numbers[0], numbers[1], numbers[2], numbers[3], row)
    book.journeys.append(journey)
    return [0, len(book.journeys), journey.share]


def tell_guarantee(book, numbers, row):
    """A principal's guarantee from a minute on: how many there are."""
    key = (numbers[0], numbers[1])
    if key not in book.guarantees and len(book.guarantees) == MOST_GUARANTEES:
        return [FULL]
    book.guarantees[key] = numbers[2]
    return [0, len(book.guarantees)]


def take_news(book, told):
    """What telling these news answers, and what it changes."""
    if not book.has_journeys_of(told):
        return [NO_JOURNEY]
    before = book.now().known
    after = known_with(before, told)
    if book.tells() == MOST_TELLS or len(after) > MOST_KNOWN:
        return [FULL]
    book.history.append(after)
    return [0, count_changed(before, after), len(after)]


def tell_news(book, numbers, row):
    """News: how many changed what's known, how many are known."""
    if not is_news(row):
        return [WRONG]
    return take_news(book, news_in(row))


def tell_letter(book, numbers, row):
    """News by a letter, answered as those of a tell."""
    if not is_text(row):
        return [WRONG]
    letter = read_letter(row)
    if letter.fault != NO_FAULT:
        return [FAULTY]
    return take_news(book, letter.told)


TELLERS = {
    "journey": tell_journey,
    "guarantee": tell_guarantee,
    "tell": tell_news,
    "letter": tell_letter,
}


def is_telling(call):
    """Whether the call is one that tells something."""
    return call.name in TELLERS


def answer_told(book, call):
    """What a call that tells something is answered, and what it changes."""
    return TELLERS[call.name](book, call.numbers, call.row)
