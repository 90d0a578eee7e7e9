"""Sieves of worths by rules, which go back and forth, and their texts."""

from worthkinds.counting import MOST_TOLD, all_worths, count_of
from worthkinds.errors import NoBack, NoText
from worthkinds.kindtexts import kind_text, read_kind, read_rule, rule_text
from worthkinds.rules import counts_keeping, is_kept, need_rule, need_rules
from worthkinds.shares import shares_together
from worthkinds.texts import need_text


class Sieve:
    def __init__(self, kind):
        self.kind = kind
        # What is left ahead of all steps, and behind each: so a step is taken back without doing the others again.
        self.remaining = [all_worths(kind)]
        self.done = []
        self.undone = []

    def keep(self, rule):
        return self.new_step("keep", rule)

    def bar(self, rule):
        return self.new_step("bar", rule)

    def left(self):
        return len(self.remaining[-1])

    def worths(self):
        return list(self.remaining[-1])

    def part(self):
        return shares_together(self.kind, self.remaining[-1])

    def base(self):
        return self.kind

    def steps(self):
        return list(self.done)

    def back(self):
        if len(self.done) == 0:
            raise NoBack("there is no step to take back")
        step = self.done.pop()
        self.remaining.pop()
        self.undone.append(step)
        return step[0]

    def forth(self):
        if len(self.undone) == 0:
            raise NoBack("there is no step to do again")
        step = self.undone.pop()
        self.do_step(step)
        return step[0]

    def counts(self):
        return (len(self.done), len(self.undone))

    def twin(self):
        other = Sieve(self.kind)
        other.remaining = list(self.remaining)
        other.done = list(self.done)
        other.undone = list(self.undone)
        return other

    def new_step(self, word, rule):
        need_rule(rule)
        before = self.left()
        self.do_step((word, rule))
        self.undone = []
        return before - self.left()

    def do_step(self, step):
        self.remaining.append(left_by(step, self.remaining[-1]))
        self.done.append(step)


def best_rule(kind, rules):
    need_rules(rules)
    worths = all_worths(kind)
    greater = [max(count, len(worths) - count) for count in counts_keeping(worths, rules)]
    return greater.index(min(greater)) if len(greater) > 0 else None


def sieve_text(sieve):
    lines = [kind_text(sieve.base())] + [word + " " + rule_text(rule) for word, rule in sieve.steps()]
    return "".join([line + "\n" for line in lines])


def read_sieve(text):
    lines = lines_in(text)
    kind = read_kind(lines[0])
    if count_of(kind) > MOST_TOLD:
        raise NoText("no sieve has a kind of so many worths")
    sieve = Sieve(kind)
    for step in [step_in(line) for line in lines[1:]]:
        sieve.do_step(step)
    return sieve


def left_by(step, worths):
    is_keep = step[0] == "keep"
    return [worth for worth in worths if is_kept(step[1], worth) == is_keep]


def lines_in(text):
    need_text(text)
    if not text.endswith("\n"):
        raise NoText("the last line is not ended")
    # Not splitlines: signs other than the line feed end lines there too.
    return text[:-1].split("\n")


def step_in(line):
    halves = line.partition(" ")
    if halves[0] != "keep" and halves[0] != "bar":
        raise NoText("no step has this word")
    return (halves[0], read_rule(halves[2]))
