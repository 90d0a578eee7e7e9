"""How kinds are made, and kinds and worths the other way about."""

from worthkinds.kinds import need_kind, need_worth, words_of_pick


def depth(kind):
    need_kind(kind)
    return depth_of(kind)


def words_in(kind):
    need_kind(kind)
    return sorted(set(words_of(kind)))


def reach(kind):
    need_kind(kind)
    return reach_of(kind)


def mirrored(kind):
    need_kind(kind)
    return mirror_of(kind)


def mirrored_worth(kind, worth):
    need_worth(kind, worth)
    return mirror_of_worth(worth)


def kinds_within(kind):
    if kind[0] == "row":
        return kind[1]
    if kind[0] == "many":
        return (kind[1],)
    return ()


def depth_of(kind):
    return 1 + max([depth_of(part) for part in kinds_within(kind)], default=0)


def words_of(kind):
    if kind[0] == "pick":
        return words_of_pick(kind)
    words = []
    for part in kinds_within(kind):
        words.extend(words_of(part))
    return words


def reach_of(kind):
    if kind[0] == "whole":
        return (kind[1], kind[2])
    if kind[0] == "pick":
        return (0, 0)
    if kind[0] == "row":
        reaches = [reach_of(part) for part in kind[1]]
        return (sum([least for least, most in reaches]), sum([most for least, most in reaches]))
    return reach_of_many(kind)


def reach_of_many(kind):
    part = reach_of(kind[1])
    # Parts below 0 come to the least where there are the most of them, others where there are the fewest.
    return (min(kind[2] * part[0], kind[3] * part[0]), max(kind[2] * part[1], kind[3] * part[1]))


def mirror_of(kind):
    if kind[0] == "whole":
        return ("whole", -kind[2], -kind[1])
    if kind[0] == "pick":
        return ("pick", tuple(reversed(kind[1])))
    if kind[0] == "row":
        return ("row", tuple([mirror_of(part) for part in reversed(kind[1])]))
    return ("many", mirror_of(kind[1]), kind[2], kind[3])


def mirror_of_worth(worth):
    if isinstance(worth, tuple):
        return tuple([mirror_of_worth(part) for part in reversed(worth)])
    return worth if isinstance(worth, str) else -worth
