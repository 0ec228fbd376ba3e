"""How calls stand in one list, and from where to where their numbers may go."""

# Of each call, in order: its name, the names of its whole numbers, and whether a row follows.
FORMS = (
    ("journey", ("p", "money", "hundredths", "limit"), True),
    ("guarantee", ("p", "t", "money"), False),
    ("tell", (), True),
    ("known", (), False),
    ("status", ("j", "t"), False),
    ("keeper", ("j", "t"), False),
    ("way", ("j",), False),
    ("faults", ("j",), False),
    ("missing", ("j",), False),
    ("seals", ("j",), False),
    ("reserved", ("p", "t"), False),
    ("peak", ("p",), False),
    ("shorts", ("p",), False),
    ("overdue", ("t",), False),
    ("may", ("j", "t"), False),
    ("plan", (), True),
    ("then", ("n", "p", "t"), False),
    ("was", ("n", "j", "t"), False),
    ("broken", (), False),
    ("journeys", (), False),
    ("letter", (), True),
    ("check", (), True),
    ("printed", (), False),
    ("would", (), True),
    ("at", ("o", "t"), False),
    ("road", ("t",), False),
    ("when", ("j", "t"), False),
    ("counts", (), False),
)

RANGES = {
    "p": (1, 6),
    "o": (1, 9),
    "t": (0, 1000000000),
    "money": (0, 1000000000),
    "hundredths": (1, 100),
    "limit": (1, 1000000),
    "j": (1, 99),
    "n": (0, 40),
    "number": (1, 999),
    "version": (1, 9),
    "told": (0, 4),
    "seal": (0, 9999),
    "duration": (1, 1000000),
    "choices": (1, 4),
    "byte": (0, 255),
}

NEWS_NAMES = ("number", "version", "j", "o", "told", "t", "seal", "seal")
MOST_NEWS = 10
LEAST_OFFICES = 2
MOST_OFFICES = 6
MOST_BYTES = 1200


class Call:
    """One call of a list: its name, its numbers with their names, its row, and where it ends."""

    def __init__(self, form, numbers, row, end):
        self.name = form[0]
        self.names = form[1]
        self.numbers = numbers
        self.row = row
        self.end = end


def read_call(calls, place):
    """The call that begins at this place."""
    form = FORMS[calls[place]]
    behind = place + 1 + len(form[1])
    numbers = calls[place + 1:behind]
    if not form[2]:
        return Call(form, numbers, [], behind)
    end = behind + 1 + calls[behind]
    return Call(form, numbers, calls[behind + 1:end], end)


def read_calls(calls):
    """All the calls of the list, in order."""
    found = []
    place = 0
    while place < len(calls):
        call = read_call(calls, place)
        found.append(call)
        place = call.end
    return found


def in_range(name, number):
    """Whether a number of this name may be that."""
    return RANGES[name][0] <= number <= RANGES[name][1]


def fits(names, numbers):
    """Whether the numbers are as many as the names, and each is in its name's range."""
    if len(names) != len(numbers):
        return False
    return all([in_range(name, number) for name, number in zip(names, numbers)])


def is_route(row):
    """Whether the row is of offices, as many as a route may have."""
    if not LEAST_OFFICES <= len(row) <= MOST_OFFICES:
        return False
    return fits(("o",) * len(row), row)


def is_news(row):
    """Whether the row is of whole news, as many as may be told at once."""
    if len(row) > MOST_NEWS * len(NEWS_NAMES):
        return False
    return fits(NEWS_NAMES * (len(row) // len(NEWS_NAMES)), row)


def is_text(row):
    """Whether the row is of bytes, as many as a letter may have."""
    return len(row) <= MOST_BYTES and fits(("byte",) * len(row), row)
