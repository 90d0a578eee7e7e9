"""Which things are kinds, and which things are worths of a kind."""

from worthkinds.errors import NoKind, NoWorth

DEEPEST = 3


def is_kind(thing):
    return is_kind_within(thing, DEEPEST)


def is_worth(kind, thing):
    need_kind(kind)
    return has_worth(kind, thing)


# The refusals show nothing of what was handed in: a number may have more
# figures than Python is willing to write.
def need_kind(kind):
    if not is_kind(kind):
        raise NoKind("this is no kind")


def need_worth(kind, worth):
    if not is_worth(kind, worth):
        raise NoWorth("the kind has no such worth")


def is_whole(thing):
    # A truth is an int to Python, but no whole number here.
    return isinstance(thing, int) and not isinstance(thing, bool)


def is_tuple_of(thing, least, most):
    return isinstance(thing, tuple) and least <= len(thing) <= most


def is_word(thing):
    if not isinstance(thing, str) or not 1 <= len(thing) <= 3:
        return False
    # Not islower: letters beyond a to z are lower-case too.
    return all(["a" <= sign <= "z" for sign in thing])


def is_span(low, high, least, most):
    return is_whole(low) and is_whole(high) and least <= low <= high <= most


def is_kind_within(thing, levels):
    # A thing may be deeper than any kind: the levels left end the descent.
    if levels == 0 or not isinstance(thing, tuple) or len(thing) == 0:
        return False
    if thing[0] == "whole":
        return len(thing) == 3 and is_span(thing[1], thing[2], -20, 20)
    if thing[0] == "pick":
        return len(thing) == 2 and are_choices(thing[1])
    if thing[0] == "row":
        return len(thing) == 2 and are_kinds_within(thing[1], levels - 1)
    if thing[0] == "many":
        return len(thing) == 4 and is_span(thing[2], thing[3], 0, 3) and is_kind_within(thing[1], levels - 1)
    return False


def are_choices(thing):
    if not is_tuple_of(thing, 1, 4) or not all([is_choice(part) for part in thing]):
        return False
    words = [choice[0] for choice in thing]
    return len(set(words)) == len(words)


def is_choice(thing):
    return is_tuple_of(thing, 2, 2) and is_word(thing[0]) and is_whole(thing[1]) and 1 <= thing[1] <= 20


def are_kinds_within(thing, levels):
    return is_tuple_of(thing, 1, 3) and all([is_kind_within(part, levels) for part in thing])


def words_of_pick(kind):
    return [choice[0] for choice in kind[1]]


def has_worth(kind, thing):
    if kind[0] == "whole":
        return is_whole(thing) and kind[1] <= thing <= kind[2]
    if kind[0] == "pick":
        return thing in words_of_pick(kind)
    if kind[0] == "row":
        return is_tuple_of(thing, len(kind[1]), len(kind[1])) and have_parts(kind[1], thing)
    return is_tuple_of(thing, kind[2], kind[3]) and have_parts([kind[1]] * len(thing), thing)


def have_parts(kinds, parts):
    return all([has_worth(kind, part) for kind, part in zip(kinds, parts)])
