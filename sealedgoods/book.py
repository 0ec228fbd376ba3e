"""What has been told: journeys, guarantees and news."""

from sealedgoods.cover import Span
from sealedgoods.news import in_force
from sealedgoods.ways import way_of


class Book:
    """All that one list of calls has told so far."""

    def __init__(self):
        self.journeys = []
        # Money by principal and minute, so that one from the same minute goes.
        self.guarantees = {}
        self.known = {}
        self.tells = 0

    def has_journey(self, number):
        """Whether a journey of this number was told."""
        return 1 <= number <= len(self.journeys)

    def journey_of(self, number):
        """The journey of this number."""
        return self.journeys[number - 1]

    def force_of(self, number):
        """The news in force of the journey of this number, by numbers."""
        return in_force(self.known, number)

    def route_of(self, number):
        """The route of the journey of this number."""
        return self.journey_of(number).route

    def way_of_journey(self, number):
        """The way of the journey of this number."""
        return way_of(self.route_of(number), self.force_of(number))

    def numbers_of(self, principal):
        """The numbers of the principal's journeys."""
        return [k for k, journey in enumerate(self.journeys, start=1) if journey.principal == principal]

    def spans_of(self, principal):
        """When the principal's journeys are out, for those of which something is on the way."""
        spans = []
        for number in self.numbers_of(principal):
            way = self.way_of_journey(number)
            if way:
                spans.append(Span(number, self.journey_of(number).share, way))
        return spans
