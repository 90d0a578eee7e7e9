"""What two kinds have in common."""

from worthkinds.counting import count_of
from worthkinds.kinds import need_kind, words_of_pick


def both(one, other):
    need_kind(one)
    need_kind(other)
    return common_kind(one, other)


def is_within(one, other):
    shared = both(one, other)
    # What is shared is part of the one: as many worths are all of them.
    return shared is not None and count_of(shared) == count_of(one)


def are_apart(one, other):
    return both(one, other) is None


def common_kind(one, other):
    if one[0] == "row":
        return common_row(one[1], kinds_of_parts(other, len(one[1])))
    if other[0] == "row":
        return common_row(kinds_of_parts(one, len(other[1])), other[1])
    if one[0] != other[0]:
        return None
    if one[0] == "whole":
        return common_whole(one, other)
    if one[0] == "pick":
        return common_pick(one, other)
    return common_many(one, other)


def kinds_of_parts(kind, length):
    if kind[0] == "row":
        return kind[1]
    if kind[0] == "many" and kind[2] <= length <= kind[3]:
        return (kind[1],) * length
    # No row is empty, so this has nothing in common with any.
    return ()


def common_row(one_kinds, other_kinds):
    if len(one_kinds) != len(other_kinds):
        return None
    shared = [common_kind(one, other) for one, other in zip(one_kinds, other_kinds)]
    if None in shared:
        return None
    return ("row", tuple(shared))


def common_whole(one, other):
    low = max(one[1], other[1])
    high = min(one[2], other[2])
    return ("whole", low, high) if low <= high else None


def common_pick(one, other):
    words = words_of_pick(other)
    choices = [choice for choice in one[1] if choice[0] in words]
    return ("pick", tuple(choices)) if len(choices) > 0 else None


def common_many(one, other):
    low = max(one[2], other[2])
    high = min(one[3], other[3])
    if low > high:
        return None
    part = common_kind(one[1], other[1])
    if part is not None:
        return ("many", part, low, high)
    # The empty tuple is shared even so: it has no part of either kind.
    return ("many", one[1], 0, 0) if low == 0 else None
