"""News of journeys, and which of them are known."""

from sealedgoods.forms import NEWS_NAMES

LEAVES = 0
PASSES = 1
ARRIVES = 2
CLEARED = 3
NOTHING = 4


class News:
    """One news; its row is kept whole, since that decides between like versions."""

    def __init__(self, row):
        self.row = row
        self.number = row[0]
        self.version = row[1]
        self.journey = row[2]
        self.office = row[3]
        self.told = row[4]
        self.minute = row[5]
        self.found = row[6]
        self.left = row[7]


def news_in(row):
    """The news that stand in the row, eight numbers each."""
    size = len(NEWS_NAMES)
    return [News(tuple(row[k:k + size])) for k in range(0, len(row), size)]


def known_with(known, told):
    """What is known, by number, once these are told too; the known before stays as it is."""
    after = dict(known)
    for news in told:
        # Rows of one number differ first in the version, so the greater row is the one known.
        if news.number not in after or news.row > after[news.number].row:
            after[news.number] = news
    return after


def count_changed(before, after):
    """How many of the known after weren't known so before."""
    return len([k for k in after if k not in before or before[k].row != after[k].row])


def by_numbers(known):
    """The known news, by rising numbers."""
    return [known[number] for number in sorted(known)]


def in_force(known):
    """The news in force, by numbers."""
    return [news for news in by_numbers(known) if news.told != NOTHING]


def in_force_of(known, journey):
    """The news in force of the journey of this number, by numbers."""
    return [news for news in in_force(known) if news.journey == journey]
