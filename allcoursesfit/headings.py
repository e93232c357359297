"""The lines of a BOOK's text that stand ahead of its READINGS: RULES, LAST and WRONG."""

from allcoursesfit.limits import is_from_to, is_rule
from allcoursesfit.ratios import read_whole


def heading_lines(rules, last, wrong):
    """The list of the lines that tell RULES, LAST and WRONG."""
    lines = []
    for rule in rules:
        lines.append("rule " + " ".join([str(number) for number in rule]))
    return lines + ["last " + str(last), "wrong " + str(wrong)]


def read_numbers(word, line):
    """The tuple of what a line tells behind this word, None for what is no integer; () if it begins otherwise."""
    words = line.split(" ")
    if words[0] != word:
        return ()
    return tuple([read_whole(text) for text in words[1:]])


def read_rules(lines):
    """The tuple of the RULES, three at most, with which the lines begin."""
    rules = ()
    for line in lines[:3]:
        rule = read_numbers("rule", line)
        if not is_rule(rule):
            return rules
        rules = rules + (rule,)
    return rules


def read_number(word, lines, at, most):
    """The integer from 0 to most that line number at tells behind this word, None if there is no such line."""
    if at >= len(lines):
        return None
    numbers = read_numbers(word, lines[at])
    if len(numbers) != 1 or not is_from_to(numbers[0], 0, most):
        return None
    return numbers[0]


def read_heading(lines):
    """(RULES, LAST, WRONG, number) as lines begin: number that of the first line that cannot stand, 0 if all can."""
    rules = read_rules(lines)
    last = read_number("last", lines, len(rules), 12)
    wrong = read_number("wrong", lines, len(rules) + 1, 3)
    fault = 0
    if rules == ():
        fault = 1
    elif last is None:
        fault = len(rules) + 1
    elif wrong is None:
        fault = len(rules) + 2
    return (rules, last, wrong, fault)
