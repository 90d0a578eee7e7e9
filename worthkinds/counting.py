"""How many worths a kind has, and their numbers."""

from worthkinds.errors import NoWorth, TooMany
from worthkinds.kinds import is_whole, need_kind, need_worth, words_of_pick

MOST_TOLD = 500


def how_many(kind):
    need_kind(kind)
    return count_of(kind)


def worth_of(kind, number):
    need_kind(kind)
    if not is_whole(number) or not 0 <= number < count_of(kind):
        raise NoWorth("the kind has no worth of this number")
    return worth_at(kind, number)


def number_of(kind, worth):
    need_worth(kind, worth)
    return place_of(kind, worth)


def all_worths(kind):
    need_kind(kind)
    count = count_of(kind)
    if count > MOST_TOLD:
        raise TooMany("the kind has too many worths to tell them all")
    return [worth_at(kind, number) for number in range(count)]


def count_of(kind):
    if kind[0] == "whole":
        return kind[2] - kind[1] + 1
    if kind[0] == "pick":
        return len(kind[1])
    if kind[0] == "row":
        return count_of_parts(kind[1])
    return count_shorter(kind, kind[3] + 1)


def count_of_parts(kinds):
    count = 1
    for kind in kinds:
        count = count * count_of(kind)
    return count


def count_shorter(kind, length):
    return sum([count_of_parts([kind[1]] * each) for each in range(kind[2], length)])


def worth_at(kind, number):
    if kind[0] == "whole":
        return kind[1] + number
    if kind[0] == "pick":
        return words_of_pick(kind)[number]
    if kind[0] == "row":
        return parts_at(kind[1], number)
    return many_at(kind, number)


def many_at(kind, number):
    length = kind[2]
    while count_shorter(kind, length + 1) <= number:
        length = length + 1
    return parts_at([kind[1]] * length, number - count_shorter(kind, length))


def parts_at(kinds, number):
    # The last part changes fastest, so the number is taken apart from there.
    parts = []
    rest = number
    for kind in reversed(kinds):
        count = count_of(kind)
        parts.append(worth_at(kind, rest % count))
        rest = rest // count
    return tuple(reversed(parts))


def place_of(kind, worth):
    if kind[0] == "whole":
        return worth - kind[1]
    if kind[0] == "pick":
        return words_of_pick(kind).index(worth)
    if kind[0] == "row":
        return place_of_parts(kind[1], worth)
    length = len(worth)
    return count_shorter(kind, length) + place_of_parts([kind[1]] * length, worth)


def place_of_parts(kinds, parts):
    place = 0
    for kind, part in zip(kinds, parts):
        place = place * count_of(kind) + place_of(kind, part)
    return place
