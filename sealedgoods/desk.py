"""The desk: takes a list of calls and answers them one by one."""

from sealedgoods.asking import answer_asked
from sealedgoods.book import Book
from sealedgoods.forms import fits, read_calls
from sealedgoods.replies import NO_JOURNEY, WRONG
from sealedgoods.telling import answer_told, is_telling


def names_no_journey(book, call):
    """Whether the call names a journey that was never told."""
    if "j" not in call.names:
        return False
    return not book.has_journey(call.numbers[call.names.index("j")])


def answer_of(book, call):
    """What one call is answered, its refusals among it."""
    if not fits(call.names, call.numbers):
        return [WRONG]
    # No call that names a journey has a row too, so no -1 can be due behind this -3.
    if names_no_journey(book, call):
        return [NO_JOURNEY]
    return answer_told(book, call) if is_telling(call) else answer_asked(book, call)


def answers(calls):
    """For each call of the list, in order: how many numbers are answered, then these."""
    book = Book()
    told = []
    for call in read_calls(calls):
        answer = answer_of(book, call)
        told.append(len(answer))
        told.extend(answer)
    return told
