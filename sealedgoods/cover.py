"""What is out of a principal, and whether its guarantee covers it."""

from sealedgoods.ways import cleared_at

NO_TURN = -1


class Span:
    """From when till when a journey is out, and its share; cleared is None if it isn't yet."""

    def __init__(self, journey, share, way):
        self.journey = journey
        self.share = share
        self.begin = way[0].minute
        self.cleared = cleared_at(way)


def is_out(span, minute):
    """Whether the span's journey is out at the minute."""
    return span.begin <= minute and (span.cleared is None or minute < span.cleared)


def out_at(spans, minute):
    """The numbers of the journeys that are out at the minute."""
    return [span.journey for span in spans if is_out(span, minute)]


def sum_at(spans, minute):
    """The sum of the shares that are out at the minute."""
    return sum([span.share for span in spans if is_out(span, minute)])


def peak_of(spans):
    """The greatest sum ever out and the first minute of it (0 and 0 if nothing ever is)."""
    greatest = 0
    first = 0
    # A sum grows only where a journey leaves, so no other minute can be the first.
    for minute in sorted([span.begin for span in spans]):
        total = sum_at(spans, minute)
        if total > greatest:
            greatest = total
            first = minute
    return (greatest, first)


def begins_of(guarantees, principal):
    """The minutes from which guarantees of the principal are told."""
    return [key[1] for key in guarantees if key[0] == principal]


def guarantee_at(guarantees, principal, minute):
    """The principal's guarantee at the minute."""
    begun = [begin for begin in begins_of(guarantees, principal) if begin <= minute]
    return guarantees[(principal, max(begun))] if begun else 0


def turns_of(spans, begins):
    """The minutes at which something leaves, is cleared or begins, rising, each once."""
    left = [span.begin for span in spans]
    cleared = [span.cleared for span in spans if span.cleared is not None]
    return sorted(set(left + cleared + begins))


def shorts_of(spans, guarantees, principal):
    """Four numbers for each turn at which more is out than guaranteed."""
    turns = turns_of(spans, begins_of(guarantees, principal))
    shorts = []
    for minute, later in zip(turns, turns[1:] + [NO_TURN]):
        total = sum_at(spans, minute)
        covered = guarantee_at(guarantees, principal, minute)
        if total > covered:
            shorts.extend([minute, later, total, covered])
    return shorts


def first_leave(spans, guarantees, journey, minute):
    """The first minute from this one on at which a journey that isn't out yet may leave, None if there's none."""
    turns = turns_of(spans, begins_of(guarantees, journey.principal))
    first = None
    # Each turn behind must be covered too, so the first one short from the end on bars all before it.
    for later in reversed([minute] + [turn for turn in turns if turn > minute]):
        if sum_at(spans, later) + journey.share > guarantee_at(guarantees, journey.principal, later):
            break
        first = later
    return first
