"""What has been told: journeys, guarantees and news, and what follows from what is known."""

from sealedgoods.cover import Span
from sealedgoods.news import in_force, in_force_of, known_with
from sealedgoods.ways import keeper_at, seals_of, stage_of, way_of


class View:
    """The journeys, as some known news tell of them."""

    def __init__(self, journeys, known):
        self.journeys = journeys
        self.known = known

    def all_numbers(self):
        """The numbers of all journeys."""
        return list(range(1, len(self.journeys) + 1))

    def numbers_of(self, principal):
        """The numbers of the principal's journeys."""
        return [number for number in self.all_numbers() if self.journey_of(number).principal == principal]

    def journey_of(self, number):
        """The journey of this number."""
        return self.journeys[number - 1]

    def route_of(self, number):
        """The route of the journey of this number."""
        return self.journey_of(number).route

    def force(self):
        """The news in force of all journeys, by numbers."""
        return in_force(self.known)

    def force_of(self, number):
        """The news in force of the journey of this number, by numbers."""
        return in_force_of(self.known, number)

    def way_of_journey(self, number):
        """The way of the journey of this number."""
        return way_of(self.route_of(number), self.force_of(number))

    def steps_of(self, number):
        """Stage and minute of each news of the way of the journey of this number."""
        route = self.route_of(number)
        return [(stage_of(route, news), news.minute) for news in self.way_of_journey(number)]

    def seals_of_journey(self, number):
        """What the seals tell of the journey of this number."""
        return seals_of(self.route_of(number), self.way_of_journey(number))

    def keeper_of(self, number, minute):
        """With whom the journey of this number is at the minute."""
        return keeper_at(self.route_of(number), self.way_of_journey(number), minute)

    def spans_of(self, principal):
        """When the principal's journeys are out, for those of which something is on the way."""
        spans = []
        for number in self.numbers_of(principal):
            way = self.way_of_journey(number)
            if way:
                spans.append(Span(number, self.journey_of(number).share, way))
        return spans


class Book:
    """All that one list of calls has told so far."""

    def __init__(self):
        self.journeys = []
        # Money by principal and minute, so that one from the same minute goes.
        self.guarantees = {}
        # What was known at first, and behind each tell or letter, since calls look back.
        self.history = [{}]

    def tells(self):
        """How many tells and letters were taken."""
        return len(self.history) - 1

    def has_journey(self, number):
        """Whether a journey of this number was told."""
        return 1 <= number <= len(self.journeys)

    def has_journeys_of(self, told):
        """Whether each of these news is of a journey that was told."""
        return all([self.has_journey(news.journey) for news in told])

    def then(self, count):
        """The journeys as they are now, by what was known behind the first so many tells and letters."""
        return View(self.journeys, self.history[count])

    def now(self):
        """The journeys by what is known now."""
        return self.then(self.tells())

    def with_news(self, told):
        """The journeys by what would be known if these news were told."""
        return View(self.journeys, known_with(self.now().known, told))
