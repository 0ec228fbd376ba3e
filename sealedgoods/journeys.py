"""Journeys as they are told."""


def share_of(money, hundredths):
    """So many hundredths of the money, rounded up."""
    return (money * hundredths + 99) // 100


class Journey:
    """One journey: who answers for it, its route, its share, and its limit in minutes."""

    def __init__(self, principal, money, hundredths, limit, route):
        self.principal = principal
        self.money = money
        self.hundredths = hundredths
        self.limit = limit
        self.route = route
        self.share = share_of(money, hundredths)
