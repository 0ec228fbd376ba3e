"""Letters: texts of news, read and written."""

from sealedgoods.forms import MOST_NEWS, NEWS_NAMES, in_range
from sealedgoods.news import News
from sealedgoods.tokens import NUMBER, TEXT_END, WRONG_TOKEN, token_at

NO_FAULT = 0
WRONG_HERE = 1
CANNOT_STAND = 2
OUT_OF_RANGE = 3
ONE_TOO_MANY = 7

# What is told, in the order of its numbers.
DOES = ("leaves", "passes", "arrives", "cleared", "nothing")

# Of each token of a news what may stand there: a number of that range, what's told, or just that text.
STEPS = (
    ("number", "number"), ("text", "."), ("number", "version"), ("text", "journey"), ("number", "j"), ("does", ""),
    ("text", "at"), ("number", "o"), ("text", "minute"), ("number", "t"), ("text", "found"), ("number", "seal"),
    ("text", "left"), ("number", "seal"), ("text", ";"),
)


class Letter:
    """A letter as it was read: its news; or its fault and that one's place."""

    def __init__(self, told, fault, place):
        self.told = told
        self.fault = fault
        self.place = place


def can_stand(step, token):
    """Whether the token is of the kind that the step asks for."""
    if step[0] == "number":
        return token.kind == NUMBER
    if step[0] == "does":
        return token.value in DOES
    return token.value == step[1]


def step_fault(step, token, is_full):
    """The fault of the token at this step of a news; of a news behind the last one if the letter is full."""
    if token.kind == WRONG_TOKEN:
        return WRONG_HERE
    if not can_stand(step, token):
        return CANNOT_STAND
    # Ahead of the range: where no number may stand at all, there's none that it could be in.
    if is_full:
        return ONE_TOO_MANY
    if step[0] == "number" and not in_range(step[1], token.value):
        return OUT_OF_RANGE
    return NO_FAULT


def values_of(step, token):
    """What the token tells of its news: one number or none."""
    if step[0] == "number":
        return [token.value]
    return [DOES.index(token.value)] if step[0] == "does" else []


def news_of(values):
    """The news of which a letter tells these values, in the letter's order."""
    # A letter tells what's told ahead of the office, a news's row behind it.
    return News((values[0], values[1], values[2], values[4], values[3], values[5], values[6], values[7]))


def news_in_values(values):
    """All the news of a letter, by the values it tells."""
    size = len(NEWS_NAMES)
    return [news_of(values[k:k + size]) for k in range(0, len(values), size)]


def read_letter(text):
    """The letter that the text is: its news, or its first fault from the left."""
    values = []
    step = 0
    token = token_at(text, 0)
    while step != 0 or token.kind != TEXT_END:
        is_full = step == 0 and len(values) == MOST_NEWS * len(NEWS_NAMES)
        fault = step_fault(STEPS[step], token, is_full)
        if fault != NO_FAULT:
            return Letter([], fault, token.place)
        values.extend(values_of(STEPS[step], token))
        step = (step + 1) % len(STEPS)
        token = token_at(text, token.end)
    return Letter(news_in_values(values), NO_FAULT, 0)


def one_form(number, version, journey, office, told, minute, found, left):
    """A news of these numbers in the one form."""
    does = DOES[told]
    return f"{number}.{version} journey {journey} {does} at {office} minute {minute} found {found} left {left};"


def news_text(news):
    """The news in the one form."""
    return one_form(news.number, news.version, news.journey, news.office, news.told, news.minute, news.found, news.left)


def letter_of(told):
    """The bytes of one letter of these news, in the one form."""
    return [ord(sign) for sign in " ".join([news_text(news) for news in told])]
