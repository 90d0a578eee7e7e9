"""How often each worth of a kind comes, as fractions (up, down) in lowest terms."""

from worthkinds.counting import count_of
from worthkinds.kinds import need_kind, need_worth


def share_of(kind, worth):
    need_worth(kind, worth)
    return share_within(kind, worth)


def mean(kind):
    need_kind(kind)
    return mean_within(kind)


def fraction(up, down):
    divisor = greatest_divisor(abs(up), down)
    return (up // divisor, down // divisor)


def greatest_divisor(one, other):
    while other != 0:
        rest = one % other
        one = other
        other = rest
    return one


def times(one, other):
    return fraction(one[0] * other[0], one[1] * other[1])


def plus(one, other):
    return fraction(one[0] * other[1] + other[0] * one[1], one[1] * other[1])


def together(fractions):
    total = (0, 1)
    for each in fractions:
        total = plus(total, each)
    return total


def shares_together(kind, worths):
    return together([share_within(kind, worth) for worth in worths])


def share_within(kind, worth):
    if kind[0] == "whole":
        return (1, count_of(kind))
    if kind[0] == "pick":
        return share_of_word(kind, worth)
    if kind[0] == "row":
        return share_of_parts(kind[1], worth)
    one_length = (1, kind[3] - kind[2] + 1)
    return times(one_length, share_of_parts([kind[1]] * len(worth), worth))


def share_of_word(kind, word):
    weights = dict(kind[1])
    return fraction(weights[word], sum(weights.values()))


def share_of_parts(kinds, parts):
    share = (1, 1)
    for kind, part in zip(kinds, parts):
        share = times(share, share_within(kind, part))
    return share


# A mean of a sum is the sum of the means, so no worth need be listed.
def mean_within(kind):
    if kind[0] == "whole":
        return fraction(kind[1] + kind[2], 2)
    if kind[0] == "pick":
        return (0, 1)
    if kind[0] == "row":
        return together([mean_within(part) for part in kind[1]])
    mean_length = fraction(kind[2] + kind[3], 2)
    return times(mean_length, mean_within(kind[1]))
