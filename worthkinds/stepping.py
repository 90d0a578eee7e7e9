"""From worth to worth, by their numbers."""

from worthkinds.counting import MOST_TOLD, count_of, place_of, worth_at
from worthkinds.errors import TooMany
from worthkinds.kinds import need_kind, need_worth


def next_worth(kind, worth):
    need_worth(kind, worth)
    return worth_if_any(kind, place_of(kind, worth) + 1)


def worth_ahead(kind, worth):
    need_worth(kind, worth)
    return worth_if_any(kind, place_of(kind, worth) - 1)


def between(kind, one, other):
    need_worth(kind, one)
    need_worth(kind, other)
    first = place_of(kind, one)
    last = place_of(kind, other)
    if last - first + 1 > MOST_TOLD:
        raise TooMany("there are too many worths between to tell them all")
    return [worth_at(kind, number) for number in range(first, last + 1)]


def middle(kind):
    need_kind(kind)
    return worth_at(kind, (count_of(kind) - 1) // 2)


def worth_if_any(kind, number):
    if not 0 <= number < count_of(kind):
        return None
    return worth_at(kind, number)
