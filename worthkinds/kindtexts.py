"""Kinds and rules as texts."""

from worthkinds.errors import NoText
from worthkinds.kinds import DEEPEST, is_kind, need_kind
from worthkinds.rules import DEEPEST_RULE, is_rule, need_rule
from worthkinds.texts import need_text, pieces_between, text_inside

# As many signs as "-50" has: no number of a kind or a rule has more.
LONGEST_NUMBER = 3


def kind_text(kind):
    need_kind(kind)
    return kind_written(kind)


def read_kind(text):
    need_text(text)
    kind = kind_in(text, DEEPEST)
    if not is_kind(kind):
        raise NoText("no kind is written so")
    return kind


def rule_text(rule):
    need_rule(rule)
    return rule_written(rule)


def read_rule(text):
    need_text(text)
    rule = rule_in(text, DEEPEST_RULE)
    if not is_rule(rule):
        raise NoText("no rule is written so")
    return rule


def kind_written(kind):
    if kind[0] == "whole":
        return span_written(kind[1], kind[2])
    if kind[0] == "pick":
        return "{" + " ".join([f"{word}:{weight}" for word, weight in kind[1]]) + "}"
    if kind[0] == "row":
        return "(" + " ".join([kind_written(part) for part in kind[1]]) + ")"
    return "[" + kind_written(kind[1]) + "]" + span_written(kind[2], kind[3])


def span_written(low, high):
    return f"{low}..{high}"


def rule_written(rule):
    if is_of_rules(rule[0]):
        return rule[0] + "(" + ", ".join([rule_written(part) for part in rule[1:]]) + ")"
    return " ".join([str(part) for part in rule])


def is_of_rules(word):
    return word == "no" or word == "all" or word == "some"


# What is read so need not be a kind: its bounds and words are asked for at the end.
def kind_in(text, levels):
    # A text may be deeper than any kind: the levels left end the descent.
    if levels == 0:
        raise NoText("no kind is as deep")
    if text.startswith("{"):
        return ("pick", tuple([choice_in(piece) for piece in text_inside(text, "{", "}").split(" ")]))
    if text.startswith("("):
        pieces = pieces_between(text_inside(text, "(", ")"), " ")
        return ("row", tuple([kind_in(piece, levels - 1) for piece in pieces]))
    if text.startswith("["):
        halves = text.rpartition("]")
        return ("many", kind_in(halves[0][1:], levels - 1)) + span_in(halves[2])
    return ("whole",) + span_in(text)


def choice_in(text):
    halves = text.partition(":")
    return (halves[0], number_in(halves[2]))


def span_in(text):
    halves = text.partition("..")
    return (number_in(halves[0]), number_in(halves[2]))


def number_in(text):
    if len(text) > LONGEST_NUMBER:
        raise NoText("the number is too long")
    try:
        number = int(text)
    except ValueError:
        raise NoText("this is no number") from None
    # int reads more than is written here: noughts and blanks ahead, figures of other scripts.
    if str(number) != text:
        raise NoText("no number is written so")
    return number


# What is read so need not be a rule: its words and bounds are asked for at the end.
def rule_in(text, levels):
    # A text may be deeper than any rule: the levels left end the descent.
    if levels == 0:
        raise NoText("no rule is as deep")
    halves = text.partition("(")
    if is_of_rules(halves[0]):
        pieces = pieces_between(text_inside(text, halves[0] + "(", ")"), ", ")
        return (halves[0],) + tuple([rule_in(piece, levels - 1) for piece in pieces])
    return single_rule_in(text.split(" "))


def single_rule_in(pieces):
    if pieces[0] == "sum" or pieces[0] == "size":
        return (pieces[0],) + tuple([number_in(piece) for piece in pieces[1:]])
    return tuple(pieces)
