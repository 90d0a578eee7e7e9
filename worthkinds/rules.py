"""Which things are rules, and which worths keep them."""

from worthkinds.counting import all_worths
from worthkinds.errors import NoRule
from worthkinds.kinds import is_whole, is_word
from worthkinds.shares import shares_together

DEEPEST_RULE = 3
FARTHEST_BOUND = 50


def is_rule(thing):
    return is_rule_within(thing, DEEPEST_RULE)


def keeps(rule, worth):
    need_rule(rule)
    return is_kept(rule, worth)


def keepers(kind, rule):
    need_rule(rule)
    return [worth for worth in all_worths(kind) if is_kept(rule, worth)]


def share_keeping(kind, rule):
    return shares_together(kind, keepers(kind, rule))


def need_rule(rule):
    if not is_rule(rule):
        raise NoRule("this is no rule")


def need_rules(rules):
    if not isinstance(rules, (list, tuple)):
        raise NoRule("these are no rules")
    for rule in rules:
        need_rule(rule)


def counts_keeping(worths, rules):
    return [len([worth for worth in worths if is_kept(rule, worth)]) for rule in rules]


def is_rule_within(thing, levels):
    # A thing may be deeper than any rule: the levels left end the descent.
    if levels == 0 or not isinstance(thing, tuple) or len(thing) == 0:
        return False
    if thing[0] == "sum" or thing[0] == "size":
        return len(thing) == 3 and is_bound(thing[1]) and is_bound(thing[2])
    if thing[0] == "word":
        return len(thing) == 2 and is_word(thing[1])
    if thing[0] == "rising" or thing[0] == "unlike":
        return len(thing) == 1
    if thing[0] == "no":
        return len(thing) == 2 and is_rule_within(thing[1], levels - 1)
    if thing[0] == "all" or thing[0] == "some":
        return len(thing) == 3 and is_rule_within(thing[1], levels - 1) and is_rule_within(thing[2], levels - 1)
    return False


def is_bound(thing):
    return is_whole(thing) and -FARTHEST_BOUND <= thing <= FARTHEST_BOUND


def is_kept(rule, worth):
    if rule[0] == "no":
        return not is_kept(rule[1], worth)
    if rule[0] == "all":
        return is_kept(rule[1], worth) and is_kept(rule[2], worth)
    if rule[0] == "some":
        return is_kept(rule[1], worth) or is_kept(rule[2], worth)
    return is_single_kept(rule, worth)


def is_single_kept(rule, worth):
    if rule[0] == "sum":
        return rule[1] <= sum(numbers_in(worth)) <= rule[2]
    if rule[0] == "size":
        return rule[1] <= len(parts_of(worth)) <= rule[2]
    if rule[0] == "word":
        return rule[1] in leaves_of(worth)
    if rule[0] == "rising":
        return are_rising(numbers_in(worth))
    return are_unlike(parts_of(worth))


def parts_of(worth):
    # What is no tuple is the one part of itself: so it has 1, and no two that are equal.
    return worth if isinstance(worth, tuple) else (worth,)


def leaves_of(worth):
    if not isinstance(worth, tuple):
        return [worth]
    leaves = []
    for part in worth:
        leaves.extend(leaves_of(part))
    return leaves


def numbers_in(worth):
    return [leaf for leaf in leaves_of(worth) if is_whole(leaf)]


def are_rising(numbers):
    return all([ahead <= number for ahead, number in zip(numbers, numbers[1:])])


def are_unlike(parts):
    return not any([part in parts[:place] for place, part in enumerate(parts)])
