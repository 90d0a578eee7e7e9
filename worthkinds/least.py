"""Lesser worths, what worths weigh, and the least worths that break a rule."""

from worthkinds.counting import all_worths
from worthkinds.errors import NoWorth
from worthkinds.kinds import need_worth, words_of_pick
from worthkinds.rules import is_kept, need_rule


def lesser(kind, worth):
    need_worth(kind, worth)
    return one_step_less(kind, worth)


def weight(kind, worth):
    need_worth(kind, worth)
    return weight_within(kind, worth)


def led_down(kind, worth, rule):
    need_rule(rule)
    need_worth(kind, worth)
    if is_kept(rule, worth):
        raise NoWorth("the worth keeps the rule")
    told = [worth]
    following = breaking_less(kind, worth, rule)
    while len(following) > 0:
        told.append(following[0])
        following = breaking_less(kind, following[0], rule)
    return told


def least_breaking(kind, rule):
    need_rule(rule)
    breaking = [worth for worth in all_worths(kind) if not is_kept(rule, worth)]
    # They stand by their numbers, and of equal ones the first is taken.
    return min(breaking, key=lambda worth: weight_within(kind, worth), default=None)


def breaking_less(kind, worth, rule):
    return [less for less in one_step_less(kind, worth) if not is_kept(rule, less)]


def one_step_less(kind, worth):
    if kind[0] == "whole":
        return number_less(kind, worth)
    if kind[0] == "pick":
        return word_less(kind, worth)
    if kind[0] == "row":
        return parts_less(kind[1], worth)
    return shorter(kind, worth) + parts_less([kind[1]] * len(worth), worth)


def nearest_to_nought(kind):
    return min(max(0, kind[1]), kind[2])


def number_less(kind, number):
    nearest = nearest_to_nought(kind)
    if number == nearest:
        return []
    return [number - 1] if number > nearest else [number + 1]


def word_less(kind, word):
    words = words_of_pick(kind)
    place = words.index(word)
    return [words[place - 1]] if place > 0 else []


def shorter(kind, worth):
    if len(worth) == kind[2]:
        return []
    return [worth[:place] + worth[place + 1:] for place in range(len(worth))]


def parts_less(kinds, parts):
    told = []
    for place, part in enumerate(parts):
        for less in one_step_less(kinds[place], part):
            told.append(parts[:place] + (less,) + parts[place + 1:])
    return told


def weight_within(kind, worth):
    if kind[0] == "whole":
        return abs(worth - nearest_to_nought(kind))
    if kind[0] == "pick":
        return words_of_pick(kind).index(worth)
    if kind[0] == "row":
        return weight_of_parts(kind[1], worth)
    return weight_of_parts([kind[1]] * len(worth), worth) + len(worth) - kind[2]


def weight_of_parts(kinds, parts):
    return sum([weight_within(kind, part) for kind, part in zip(kinds, parts)])
