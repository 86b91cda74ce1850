"""Which texts are right, and which line of others is wrong, by the words of [91]."""

import re
from fractions import Fraction

from tests import models

CUT = r"[en][234]"
NUMBER = r"(?:0|[1-9][0-9]*)(?:/[1-9][0-9]*)?"
MOVES = [f"{i},{j}" for i in (-1, 0, 1) for j in (-1, 0, 1)]


def cuts_of(line):
    """The cuts that a line tells, or None."""
    if not re.fullmatch(f"{CUT}(?: {CUT}){{0,4}}", line):
        return None
    cuts = [({"e": "east", "n": "north"}[word[0]], int(word[1])) for word in line.split()]
    return cuts if models.signs_of(cuts) <= 32 else None


def is_number(word, *, most=None):
    """Whether a word tells a number greater than 0."""
    if not re.fullmatch(NUMBER, word) or str(Fraction(word)) != word:
        return False
    return Fraction(word) > 0 and (most is None or Fraction(word) <= most)


def is_axis_line(line, axis):
    found = re.fullmatch(f"{axis} ([^ ]+) (?:open|closed)", line)
    return found is not None and is_number(found[1])


def are_moves(words):
    return "0,0" in words and words == [move for move in MOVES if move in words]


def entries_of(line, signs):
    """The states that a line of entries names, or None if it is none."""
    if not re.fullmatch("entries(?: [^ ]+)+", line):
        return None
    words = line.split(" ")[1:]
    found = [re.fullmatch("(0|[1-9][0-9]?)(?::([0-7]))?", word) for word in words]
    if len(words) != signs or None in found or any(int(one[1]) >= signs for one in found):
        return None
    return [int(one[2]) for one in found if one[2] is not None]


def could_table(plan_rounds, lines):
    """How many of the lines belong to a table, or None if one of them is wrong; and whether the table is whole."""
    if not lines:
        return 0, False
    if not re.fullmatch("begins(?: [0-7]){4}", lines[0]):
        return None, False
    named = [int(word) for word in lines[0].split()[1:]]
    many = 0
    while many + 1 < len(lines) and lines[many + 1].split(" ")[0] == "entries" and many < 8 * len(plan_rounds):
        states = entries_of(lines[many + 1], models.signs_of(plan_rounds[many % len(plan_rounds)]))
        if states is None:
            return None, False
        named = named + states
        many += 1
    whole = many > 0 and many % len(plan_rounds) == 0 and max(named) < many // len(plan_rounds)
    return many + 1, whole


def could_tail(plan_rounds, lines):
    """Whether lines behind a table can be those of a rule, and whether all of them are there."""
    patterns = [
        lambda line: re.fullmatch("gauge (?:box|sum) [^ ]+ [^ ]+", line)
        and all(is_number(word, most=1) for word in line.split()[2:]),
        lambda line: re.fullmatch("edges (?:seam|stop) (?:seam|stop)", line),
        lambda line: line.startswith("moves ") and are_moves(line.split(" ")[1:]),
    ]
    for line, pattern in zip(lines, patterns):
        if not pattern(line):
            return False, False
    last = (-1, -1)
    for line in lines[3:]:
        words = line.split(" ")
        if len(words) < 4 or words[0] != "look" or not are_moves(words[3:]):
            return False, False
        if not all(re.fullmatch("0|[1-9][0-9]?", word) for word in words[1:3]):
            return False, False
        key = (int(words[1]), int(words[2]))
        if key <= last or key[0] >= len(plan_rounds) or key[1] >= models.signs_of(plan_rounds[key[0]]):
            return False, False
        last = key
    return True, len(lines) >= 3


def looked_through(kind, lines, plan_rounds=None):
    """Whether some right text begins with these lines, and whether they are one."""
    if kind == "table":
        many, whole = could_table(plan_rounds, lines)
        return many == len(lines), many == len(lines) and whole
    rounds = []
    while len(rounds) < min(3, len(lines)) and cuts_of(lines[len(rounds)]) is not None:
        rounds.append(cuts_of(lines[len(rounds)]))
    tail = lines[len(rounds):]
    columns = rows = 1
    for cuts in rounds:
        columns, rows = columns * models.parts_of(cuts)[0], rows * models.parts_of(cuts)[1]
    balanced = bool(rounds) and columns == rows
    if kind == "plan" or not tail:
        return not tail, not tail and balanced and kind == "plan"
    if not balanced or not all(is_axis_line(line, axis) for line, axis in zip(tail, ("east", "north"))):
        return False, False
    tail, whole = tail[2:], len(tail) >= 2
    if kind == "map" or not tail:
        return not tail, not tail and whole and kind == "map"
    many, whole = could_table(rounds, tail)
    if many is None or many == len(tail):
        return many is not None, False
    could, is_all = could_tail(rounds, tail[many:])
    return whole and could, whole and could and is_all


def wrong_line(kind, text, plan_rounds=None):
    """The wrong line of a text, or None if it is right."""
    *lines, rest = text.split("\n")
    for many in range(1, len(lines) + 1):
        if not looked_through(kind, lines[:many], plan_rounds)[0]:
            return many
    if rest or not looked_through(kind, lines, plan_rounds)[1]:
        return len(lines) + 1
    return None
