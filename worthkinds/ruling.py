"""Rules side by side, over all worths of a kind."""

from worthkinds.counting import all_worths
from worthkinds.rules import counts_keeping, is_kept, keepers, need_rules
from worthkinds.shares import shares_together


def implies(kind, one, other):
    need_rules((one, other))
    return all([is_kept(other, worth) for worth in keepers(kind, one)])


def alike_on(kind, one, other):
    need_rules((one, other))
    return keepers(kind, one) == keepers(kind, other)


def tally(kind, rules):
    need_rules(rules)
    ways = worths_by_ways(kind, rules)
    return sorted([(way, len(worths), shares_together(kind, worths)) for way, worths in ways.items()])


def parted(kind, rules):
    need_rules(rules)
    # The dict keeps the order in which the ways came, and each came with its first worth.
    return list(worths_by_ways(kind, rules).values())


def tightest(kind, rules):
    need_rules(rules)
    counts = counts_keeping(all_worths(kind), rules)
    fewest = min(counts, default=0)
    return [number for number, count in enumerate(counts) if count == fewest]


def worths_by_ways(kind, rules):
    ways = {}
    for worth in all_worths(kind):
        ways.setdefault(way_of(rules, worth), []).append(worth)
    return ways


def way_of(rules, worth):
    return tuple([is_kept(rule, worth) for rule in rules])
