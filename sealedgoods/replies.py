"""What answers are made of: refusals and rows."""

WRONG = -1
NO_JOURNEY = -3
NOT_SO_MANY = -3
TWICE = -5
FAULTY = -5
FULL = -6
ON_WAY = -7


def counted(numbers):
    """The numbers as a row of an answer."""
    return [len(numbers)] + numbers
