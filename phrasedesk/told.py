"""Whether a phrase's text in a tongue is fresh or old."""

from phrasedesk.answers import Fresh, Old
from phrasedesk.errors import BadFroms, BadRow, BadTongue
from phrasedesk.rules import chain_up, is_froms, is_row, is_tongue


def told(froms, row, tongue):
    """A Fresh or an Old of this tongue in a phrase's row."""
    if not is_froms(froms):
        raise BadFroms("froms are a list that has an earlier tongue for each tongue but the source, 2 to 8 in all")
    if not is_row(froms, row):
        raise BadRow("a row is a list that has a pair for the source and a pair or None for each other tongue")
    if not is_tongue(froms, tongue):
        raise BadTongue("a tongue is a number from 0 on and below that of the tongues")
    chain = chain_up(froms, row, tongue)
    if chain is None:
        return Fresh()
    return Old(chain)
