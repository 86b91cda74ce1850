"""Claims of rules and tables, and the papers that show them."""

from movecells.alike import (
    fault,
    is_fault,
    is_from,
    is_parting,
    is_twice_from,
    is_twice_paper,
    parting,
    rules_alike,
    twice,
)
from movecells.errors import InvalidClaim
from movecells.missing import closed_lists, is_closed_paper, is_miss, misses_nothing, missing
from movecells.rules import Rule
from movecells.tables import Table

MISSES_NOTHING = "misses nothing"
MISSES = "misses"
RIGHT = "right"
FAULTY = "faulty"
ALIKE = "alike"
UNLIKE = "unlike"
TWICE = "twice"
ONCE = "once"
# The claims of which None is the paper.
WITHOUT_PAPER = ("right", "alike", "once")


def is_claim(value):
    """Whether any value is a claim."""
    if not isinstance(value, tuple) or len(value) < 2 or not isinstance(value[0], str):
        return False
    word, one = value[:2]
    if word in (MISSES_NOTHING, MISSES):
        return len(value) == 2 and isinstance(one, Rule)
    if word in (RIGHT, FAULTY):
        return len(value) == 2 and isinstance(one, Table)
    if len(value) != 3 or not isinstance(one, Rule):
        return False
    other = value[2]
    if word in (ALIKE, UNLIKE):
        return isinstance(other, Rule) and one.gauge.area == other.gauge.area
    return word in (TWICE, ONCE) and is_from(other)


def is_true(claim):
    """Whether a claim is true."""
    _check_claim(claim)
    word, one = claim[:2]
    if word == MISSES_NOTHING:
        return misses_nothing(one)
    if word == MISSES:
        return not misses_nothing(one)
    if word == RIGHT:
        return fault(one) is None
    if word == FAULTY:
        return fault(one) is not None
    other = claim[2]
    if word == ALIKE:
        return rules_alike(one, other)
    if word == UNLIKE:
        return not rules_alike(one, other)
    return is_twice_from(one, other) == (word == TWICE)


def paper_for(claim):
    """A paper that shows a claim; None if it is None, or if the claim is not true."""
    _check_claim(claim)
    word, one = claim[:2]
    if word == MISSES_NOTHING:
        return closed_lists(one)
    if word == MISSES:
        return missing(one)
    if word == FAULTY:
        return fault(one)
    if word == UNLIKE:
        return parting(one, claim[2])
    if word == TWICE:
        return twice(one, claim[2])
    return None


def is_paper(claim, value):
    """Whether any value is a paper of a claim."""
    _check_claim(claim)
    word, one = claim[:2]
    if word in WITHOUT_PAPER:
        return value is None and is_true(claim)
    if word == MISSES_NOTHING:
        return is_closed_paper(one, value)
    if word == MISSES:
        return is_miss(one, value)
    if word == FAULTY:
        return is_fault(one, value)
    if word == UNLIKE:
        return is_parting(one, claim[2], value)
    return is_twice_paper(one, claim[2], value)


def _check_claim(claim):
    """Raise the error of a value that is no claim."""
    if not is_claim(claim):
        raise InvalidClaim(claim)
