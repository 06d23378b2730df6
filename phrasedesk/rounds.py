"""All old ones put anew in the fewest rounds."""

from phrasedesk.answers import Rounds
from phrasedesk.errors import BadFroms, BadHands, BadOld
from phrasedesk.rules import depth_of, is_froms, is_hands, is_old, one_above, rounds_needed


def evened(froms, old, hands):
    """The Rounds in which so many hands put all old ones anew."""
    if not is_froms(froms):
        raise BadFroms("froms are a list that has an earlier tongue for each tongue but the source, 2 to 8 in all")
    if not is_old(froms, old):
        raise BadOld("old ones are a rising list of pairs of a phrase, 0 to 5, and a tongue but the source")
    if not is_hands(hands):
        raise BadHands("hands are a number from 1 to 4")
    return Rounds(fewest_rows(froms, old, hands), telling_depth(froms, old, hands))


def fewest_rows(froms, old, hands):
    """The old ones in rows, as few as can be."""
    # Each has one above it at the most, but maybe many below it. Seen from the last round back
    # each thus frees one at the most, and taking the deepest ones first is then never worse.
    left = deepest_first(froms, old)
    rows = []
    while left:
        row = last_row(froms, left, hands)
        rows.append(sorted(row))
        left = [pair for pair in left if pair not in row]
    return rows[::-1]


def deepest_first(froms, old):
    """The old ones, those with the most above them first."""
    olds = {pair: True for pair in old}
    return sorted(old, key=lambda pair: depth_of(froms, olds, pair), reverse=True)


def last_row(froms, left, hands):
    """The first of those left, one for each hand at the most, that none of those left has to follow."""
    followed = {one_above(froms, pair): True for pair in left}
    return [pair for pair in left if pair not in followed][:hands]


def telling_depth(froms, old, hands):
    """The least depth by which the most rounds are needed."""
    depths = list(range(len(froms)))
    return max(depths, key=lambda depth: rounds_needed(froms, old, hands, depth))
